
/-
  How sketches of counts lie in memory, and what the functions of layer 11 (least) that write no row answer.
-/
import Derived.Test.YtihealembikkiaaHashMore
import Derived.Test.YtihealembikkiaaLstNum
import Derived.Deep.AppendLies
import Derived.OwnWalk
namespace Go.Proofs.Ytihealembikkiaa
open Go.RowKit Fm Bl Lt L2 Go.Deep
set_option linter.unusedVariables false
set_option maxRecDepth 20000

/-- Numbers that can be read, whoever made them. -/
def IntsI (w : World) (v : Value) (n : Nat) (z : Nat → Int) : Prop :=
  ∃ (A : Option Addr) (cap b o : Nat), v = .slice A n cap ∧ n ≤ cap ∧ (0 < n → A = some ⟨b, o, none⟩) ∧ ∀ i, i < n → w.cell? ⟨b, o + i, none⟩ = some (.int .i64 (z i))
/-- Rows of such. -/
def RowsI (w : World) (v : Value) (R : Nat) (L : Nat → Nat) (Z : Nat → Nat → Int) : Prop :=
  ∃ (A : Option Addr) (cap b o : Nat) (V : Nat → Value), v = .slice A R cap ∧ R ≤ cap ∧ (0 < R → A = some ⟨b, o, none⟩) ∧ ∀ r, r < R → w.cell? ⟨b, o + r, none⟩ = some (V r) ∧ IntsI w (V r) (L r) (Z r)
/-- A sketch as a value. -/
def SkAt (w : World) (x : Value) (S M : Int) (R : Nat) (L : Nat → Nat) (Z : Nat → Nat → Int) : Prop := ∃ v, x = .agg #[.int .u64 S, .int .i64 M, v] ∧ RowsI w v R L Z
theorem IntsI.keep {w w' : World} {v : Value} {n : Nat} {z : Nat → Int} (h : IntsI w v n z) (k : Keep w w') : IntsI w' v n z := by
  obtain ⟨A, cap, b, o, h1, h2, h3, h4⟩ := h
  exact ⟨A, cap, b, o, h1, h2, h3, fun i hi => k _ _ (h4 i hi)⟩
theorem IntsI.congr {w : World} {v : Value} {n : Nat} {z y : Nat → Int} (h : IntsI w v n z) (e : ∀ i, i < n → z i = y i) : IntsI w v n y := by
  obtain ⟨A, cap, b, o, h1, h2, h3, h4⟩ := h
  exact ⟨A, cap, b, o, h1, h2, h3, fun i hi => by rw [← e i hi]; exact h4 i hi⟩
theorem RowsI.keep {w w' : World} {v : Value} {R : Nat} {L : Nat → Nat} {Z : Nat → Nat → Int} (h : RowsI w v R L Z) (k : Keep w w') : RowsI w' v R L Z := by
  obtain ⟨A, cap, b, o, V, h1, h2, h3, h4⟩ := h
  exact ⟨A, cap, b, o, V, h1, h2, h3, fun c hc => ⟨k _ _ (h4 c hc).1, (h4 c hc).2.keep k⟩⟩
theorem RowsI.congr {w : World} {v : Value} {R : Nat} {L K : Nat → Nat} {Z Y : Nat → Nat → Int} (h : RowsI w v R L Z) (e : ∀ i, i < R → L i = K i) (f : ∀ i j, i < R → j < K i → Z i j = Y i j) : RowsI w v R K Y := by
  obtain ⟨A, cap, b, o, V, h1, h2, h3, h4⟩ := h
  refine ⟨A, cap, b, o, V, h1, h2, h3, fun c hc => ⟨(h4 c hc).1, ?_⟩⟩
  rw [← e c hc]
  exact (h4 c hc).2.congr fun j hj => f c j hc (by rw [← e c hc]; exact hj)
theorem RowsI.row {w : World} {A : Option Addr} {R b o : Nat} {V : Nat → Value} {L : Nat → Nat} {Z : Nat → Nat → Int} (h3 : 0 < R → A = some ⟨b, o, none⟩) (h4 : ∀ r, r < R → w.cell? ⟨b, o + r, none⟩ = some (V r) ∧ IntsI w (V r) (L r) (Z r)) {r : Nat} (hr : r < R) :
    A = some ⟨b, o, none⟩ ∧ ∃ A' cap' b' o', w.cell? ⟨b, o + r, none⟩ = some (.slice A' (L r) cap') ∧ L r ≤ cap' ∧ (0 < L r → A' = some ⟨b', o', none⟩) ∧ ∀ j, j < L r → w.cell? ⟨b', o' + j, none⟩ = some (.int .i64 (Z r j)) := by
  obtain ⟨c, A', cap', b', o', e, l, f, g⟩ := h4 r hr
  exact ⟨h3 (by omega), A', cap', b', o', by rw [c, e], l, f, g⟩
/-- What rows that can be read are, a row at a time. -/
def RowsCells (w : World) (A : Option Addr) (R b o : Nat) (L : Nat → Nat) (Z : Nat → Nat → Int) : Prop :=
  ∀ r, r < R → A = some ⟨b, o, none⟩ ∧ ∃ A' cap' b' o', w.cell? ⟨b, o + r, none⟩ = some (.slice A' (L r) cap') ∧ L r ≤ cap' ∧ (0 < L r → A' = some ⟨b', o', none⟩) ∧ ∀ j, j < L r → w.cell? ⟨b', o' + j, none⟩ = some (.int .i64 (Z r j))
theorem RowsI.read {w : World} {v : Value} {R : Nat} {L : Nat → Nat} {Z : Nat → Nat → Int} (h : RowsI w v R L Z) : ∃ A cap b o, v = .slice A R cap ∧ R ≤ cap ∧ RowsCells w A R b o L Z := by
  obtain ⟨A, cap, b, o, V, h1, h2, h3, h4⟩ := h
  exact ⟨A, cap, b, o, h1, h2, fun r hr => RowsI.row h3 h4 hr⟩
theorem RowsCells.keep {w w' : World} {A : Option Addr} {R b o : Nat} {L : Nat → Nat} {Z : Nat → Nat → Int} (h : RowsCells w A R b o L Z) (k : Keep w w') : RowsCells w' A R b o L Z := fun r hr => by
  obtain ⟨e, A', cap', b', o', c, l, f, g⟩ := h r hr
  exact ⟨e, A', cap', b', o', k _ _ c, l, f, fun j hj => k _ _ (g j hj)⟩
theorem SkAt.keep {w w' : World} {x : Value} {S M : Int} {R : Nat} {L : Nat → Nat} {Z : Nat → Nat → Int} (h : SkAt w x S M R L Z) (k : Keep w w') : SkAt w' x S M R L Z := by
  obtain ⟨v, h1, h2⟩ := h
  exact ⟨v, h1, h2.keep k⟩
theorem SkAt.congr {w : World} {x : Value} {S M : Int} {R : Nat} {L K : Nat → Nat} {Z Y : Nat → Nat → Int} (h : SkAt w x S M R L Z) (e : ∀ i, i < R → L i = K i) (f : ∀ i j, i < R → j < K i → Z i j = Y i j) : SkAt w x S M R K Y := by
  obtain ⟨v, h1, h2⟩ := h
  exact ⟨v, h1, h2.congr e f⟩
theorem SkAt.one {w : World} {x : Value} {S M : Int} {R : Nat} {L : Nat → Nat} {Z : Nat → Nat → Int} (h : SkAt w x S M R L Z) (r : RightP M R L Z) : SkAt w x S M R (fun _ => L 0) Z :=
  h.congr (fun i hi => (r.2.2.2.2.2.2 i hi).1) fun _ _ _ _ => rfl
/-- A number that an int holds. -/
def I (h : Int) : Prop := -9223372036854775808 ≤ h ∧ h ≤ 9223372036854775807
/-- A bool that tells whether something holds; the world stands. -/
def TellsW (w : World) (P : Prop) (e : Ending) (w' : World) : Prop := ∃ B : Bool, e = .returned (.bool B) ∧ (B = true ↔ P) ∧ w' = w

def put3 (w : World) (g : Nat) (a0 a1 a2 : Value) : World := ((w.setCell ⟨g, 0, none⟩ a0).setCell ⟨g, 1, none⟩ a1).setCell ⟨g, 2, none⟩ a2
theorem put3_eq (w : World) (g : Nat) (a0 a1 a2 : Value) : put3 w g a0 a1 a2 = putCells w g 0 [a0, a1, a2] := by simp only [put3, putCells]
theorem put3_below {Bd : Nat} {w wr : World} {g : Nat} (h : Below Bd w wr) (hg : Bd ≤ g) (a0 a1 a2 : Value) : Below Bd w (put3 wr g a0 a1 a2) := by
  rw [put3_eq]; exact putCells_below hg _ _ _ h
theorem put3_blk {w : World} {g : Nat} {t : TypeId} {x0 x1 x2 : Value} (h : Blk w g t #[x0, x1, x2]) (a0 a1 a2 : Value) : Blk (put3 w g a0 a1 a2) g t #[a0, a1, a2] := by
  rw [put3_eq]; exact putCells_blk [a0, a1, a2] [x0, x1, x2] [] w 0 rfl rfl h
theorem put3_other {w : World} {g q : Nat} {t : TypeId} {cs : Array Value} (h : Blk w q t cs) (hq : q ≠ g) (a0 a1 a2 : Value) : Blk (put3 w g a0 a1 a2) q t cs :=
  ((h.other (a := ⟨g, 0, none⟩) hq a0).other (a := ⟨g, 1, none⟩) hq a1).other (a := ⟨g, 2, none⟩) hq a2
theorem info3 : (Try.prog.info? 3).map (fun i => (i.zero, i.size, i.bytes)) = some (some (.int .i64 0), 1, 8) := by kernel_rfl
theorem info33 : (Try.prog.info? 57).map (fun i => (i.zero, i.size, i.bytes)) = some (some (.slice none 0 0), 1, 24) := by kernel_rfl
theorem info3' : ∃ i, Try.prog.info? 3 = some i ∧ i.zero = some (.int .i64 0) ∧ i.size = 1 ∧ i.bytes = 8 := by
  obtain ⟨i, hi, hzz⟩ := Option.map_eq_some_iff.1 info3
  simp only [Prod.mk.injEq] at hzz
  exact ⟨i, hi, hzz⟩
theorem info33' : ∃ i, Try.prog.info? 57 = some i ∧ i.zero = some (.slice none 0 0) ∧ i.size = 1 ∧ i.bytes = 24 := by
  obtain ⟨i, hi, hzz⟩ := Option.map_eq_some_iff.1 info33
  simp only [Prod.mk.injEq] at hzz
  exact ⟨i, hi, hzz⟩

set_option maxHeartbeats 1600000 in
theorem fits_any (r c m : Int) (w : World) : Calls Try.prog 71 #[.int .i64 r, .int .i64 c, .int .i64 m] w fun e w' => e = .returned (.bool (fitsL r c m)) ∧ w' = w := by
  by_cases c1 : 1 ≤ r
  rotate_left
  · have E : Hid (fitsL r c m = false) := decide_eq_false (by omega)
    go_enter Try.func71, Try.ntmps71
    go_wp2
    go_ret
    exact ⟨by rw [E.out]; rfl, rfl⟩
  by_cases c2 : r ≤ 7
  rotate_left
  · have E : Hid (fitsL r c m = false) := decide_eq_false (by omega)
    go_enter Try.func71, Try.ntmps71
    go_wp2
    go_ret
    exact ⟨by rw [E.out]; rfl, rfl⟩
  by_cases c3 : 1 ≤ c
  rotate_left
  · have E : Hid (fitsL r c m = false) := decide_eq_false (by omega)
    go_enter Try.func71, Try.ntmps71
    go_wp2
    go_ret
    exact ⟨by rw [E.out]; rfl, rfl⟩
  by_cases c4 : c ≤ 256
  rotate_left
  · have E : Hid (fitsL r c m = false) := decide_eq_false (by omega)
    go_enter Try.func71, Try.ntmps71
    go_wp2
    go_ret
    exact ⟨by rw [E.out]; rfl, rfl⟩
  by_cases c5 : 1 ≤ m
  rotate_left
  · have E : Hid (fitsL r c m = false) := decide_eq_false (by omega)
    go_enter Try.func71, Try.ntmps71
    go_wp2
    go_ret
    exact ⟨by rw [E.out]; rfl, rfl⟩
  by_cases c6 : m ≤ 1099511627776
  rotate_left
  · have E : Hid (fitsL r c m = false) := decide_eq_false (by omega)
    go_enter Try.func71, Try.ntmps71
    go_wp2
    go_ret
    exact ⟨by rw [E.out]; rfl, rfl⟩
  have E : Hid (fitsL r c m = true) := decide_eq_true (by omega)
  go_enter Try.func71, Try.ntmps71
  go_wp2
  go_ret
  exact ⟨by rw [E.out]; rfl, rfl⟩
set_option maxHeartbeats 1600000 in
theorem within_any (w : World) (v : Value) (n : Nat) (z : Nat → Int) (M : Int) (h : IntsI w v n z) (hn : n ≤ 100000) :
    Calls Try.prog 80 #[v, .int .i64 M] w (TellsW w (∀ j, j < n → 0 ≤ z j ∧ z j ≤ M)) := by
  obtain ⟨A, cap, b, o, rfl, h2, h3, h4⟩ := h
  have H3 : Hid (0 < n → A = some ⟨b, o, none⟩) := h3
  have H4 : Hid (∀ i, i < n → w.cell? ⟨b, o + i, none⟩ = some (.int .i64 (z i))) := h4
  clear h3 h4
  go_enter Try.func80, Try.ntmps80
  go_wp2_with fail
  go_loop [9] (fun i => ∃ k : Nat, (k ≤ n ∧ ∀ r, r < k → 0 ≤ z r ∧ z r ≤ M) ∧ i = .int .i64 (k : Int)) (fun i => n - (intOf i).toNat)
  case atStart => exact ⟨0, ⟨by omega, fun r hr => by omega⟩, rfl⟩
  case round =>
    obtain ⟨k, hk, rfl⟩ := hrel
    have HK : Hid (k ≤ n ∧ ∀ r, r < k → 0 ≤ z r ∧ z r ≤ M) := hk
    have hkR := hk.1
    clear hk
    by_cases hz : k < n
    · obtain rfl := H3.out (by omega)
      have ck := H4.out k hz
      have bk : (k : Int) < (n : Int) := by omega
      obtain ⟨x, hx⟩ : ∃ x, x = z k := ⟨_, rfl⟩
      rw [← hx] at ck
      have HX : Hid (x = z k) := hx
      clear hx
      by_cases e1 : x < 0
      · go_wp2_with fail
        go_ret
        exact ⟨false, rfl, ⟨fun h => (by cases h), fun h => by have := h k hz; rw [← HX.out] at this; omega⟩, rfl⟩
      by_cases e2 : x > M
      · go_wp2_with fail
        go_ret
        exact ⟨false, rfl, ⟨fun h => (by cases h), fun h => by have := h k hz; rw [← HX.out] at this; omega⟩, rfl⟩
      go_wp2_with fail
      go_round
      case rel =>
        refine ⟨k + 1, ⟨by omega, fun r hr => ?_⟩, by go_num⟩
        by_cases e : r = k
        · rw [e, ← HX.out]; omega
        · exact HK.out.2 r (by omega)
      case measure => simp [intOf]; omega
    · go_wp2_with fail
      go_ret
      exact ⟨true, rfl, ⟨fun _ => fun r hr => HK.out.2 r (by omega), fun _ => rfl⟩, rfl⟩
end Go.Proofs.Ytihealembikkiaa
