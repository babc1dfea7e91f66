
/-
  How maps of bits lie in memory, and what the small functions of layer 13 (bitmap) answer.
-/
import Derived.Test.YtkfhofgmjhnknaaDoorHashMore
import Derived.Test.YtkfhofgmjhnknaaDoorHashWords
import Derived.Test.YtkfhofgmjhnknaaDoorTab
import Derived.Test.YtkfhofgmjhnknaaDoorBtmNum
import Derived.Deep.AppendLies
import Derived.OwnWalk
namespace Go.Proofs.YtkfhofgmjhnknaaDoor
open Go.RowKit Fm Bl Bm L2 Go.Deep
set_option linter.unusedVariables false

/-- Bits that can be read, whoever made them. -/
def BitsI (w : World) (v : Value) (n : Nat) (z : Nat → Bool) : Prop :=
  ∃ (A : Option Addr) (cap b o : Nat), v = .slice A n cap ∧ n ≤ cap ∧ (0 < n → A = some ⟨b, o, none⟩) ∧ ∀ i, i < n → w.cell? ⟨b, o + i, none⟩ = some (.bool (z i))
/-- Rows of such. -/
def RowsB (w : World) (v : Value) (R : Nat) (L : Nat → Nat) (Z : Nat → Nat → Bool) : Prop :=
  ∃ (A : Option Addr) (cap b o : Nat) (V : Nat → Value), v = .slice A R cap ∧ R ≤ cap ∧ (0 < R → A = some ⟨b, o, none⟩) ∧ ∀ r, r < R → w.cell? ⟨b, o + r, none⟩ = some (V r) ∧ BitsI w (V r) (L r) (Z r)
theorem BitsI.keep {w w' : World} {v : Value} {n : Nat} {z : Nat → Bool} (h : BitsI w v n z) (k : Keep w w') : BitsI w' v n z := by
  obtain ⟨A, cap, b, o, h1, h2, h3, h4⟩ := h
  exact ⟨A, cap, b, o, h1, h2, h3, fun i hi => k _ _ (h4 i hi)⟩
theorem BitsI.congr {w : World} {v : Value} {n : Nat} {z y : Nat → Bool} (h : BitsI w v n z) (e : ∀ i, i < n → z i = y i) : BitsI w v n y := by
  obtain ⟨A, cap, b, o, h1, h2, h3, h4⟩ := h
  exact ⟨A, cap, b, o, h1, h2, h3, fun i hi => by rw [← e i hi]; exact h4 i hi⟩
theorem RowsB.keep {w w' : World} {v : Value} {R : Nat} {L : Nat → Nat} {Z : Nat → Nat → Bool} (h : RowsB w v R L Z) (k : Keep w w') : RowsB w' v R L Z := by
  obtain ⟨A, cap, b, o, V, h1, h2, h3, h4⟩ := h
  exact ⟨A, cap, b, o, V, h1, h2, h3, fun c hc => ⟨k _ _ (h4 c hc).1, (h4 c hc).2.keep k⟩⟩
theorem RowsB.congr {w : World} {v : Value} {R : Nat} {L K : Nat → Nat} {Z Y : Nat → Nat → Bool} (h : RowsB w v R L Z) (e : ∀ i, i < R → L i = K i) (f : ∀ i j, i < R → j < K i → Z i j = Y i j) : RowsB w v R K Y := by
  obtain ⟨A, cap, b, o, V, h1, h2, h3, h4⟩ := h
  refine ⟨A, cap, b, o, V, h1, h2, h3, fun c hc => ⟨(h4 c hc).1, ?_⟩⟩
  rw [← e c hc]
  exact (h4 c hc).2.congr fun j hj => f c j hc (by rw [← e c hc]; exact hj)
theorem RowsB.row {w : World} {A : Option Addr} {R b o : Nat} {V : Nat → Value} {L : Nat → Nat} {Z : Nat → Nat → Bool} (h3 : 0 < R → A = some ⟨b, o, none⟩) (h4 : ∀ r, r < R → w.cell? ⟨b, o + r, none⟩ = some (V r) ∧ BitsI w (V r) (L r) (Z r)) {r : Nat} (hr : r < R) :
    A = some ⟨b, o, none⟩ ∧ ∃ A' cap' b' o', w.cell? ⟨b, o + r, none⟩ = some (.slice A' (L r) cap') ∧ L r ≤ cap' ∧ (0 < L r → A' = some ⟨b', o', none⟩) ∧ ∀ j, j < L r → w.cell? ⟨b', o' + j, none⟩ = some (.bool (Z r j)) := by
  obtain ⟨c, A', cap', b', o', e, l, f, g⟩ := h4 r hr
  exact ⟨h3 (by omega), A', cap', b', o', by rw [c, e], l, f, g⟩
/-- What rows that can be read are, a row at a time. -/
def RowsCells (w : World) (A : Option Addr) (R b o : Nat) (L : Nat → Nat) (Z : Nat → Nat → Bool) : Prop :=
  ∀ r, r < R → A = some ⟨b, o, none⟩ ∧ ∃ A' cap' b' o', w.cell? ⟨b, o + r, none⟩ = some (.slice A' (L r) cap') ∧ L r ≤ cap' ∧ (0 < L r → A' = some ⟨b', o', none⟩) ∧ ∀ j, j < L r → w.cell? ⟨b', o' + j, none⟩ = some (.bool (Z r j))
theorem RowsB.read {w : World} {v : Value} {R : Nat} {L : Nat → Nat} {Z : Nat → Nat → Bool} (h : RowsB w v R L Z) : ∃ A cap b o, v = .slice A R cap ∧ R ≤ cap ∧ RowsCells w A R b o L Z := by
  obtain ⟨A, cap, b, o, V, h1, h2, h3, h4⟩ := h
  exact ⟨A, cap, b, o, h1, h2, fun r hr => RowsB.row h3 h4 hr⟩
theorem RowsCells.keep {w w' : World} {A : Option Addr} {R b o : Nat} {L : Nat → Nat} {Z : Nat → Nat → Bool} (h : RowsCells w A R b o L Z) (k : Keep w w') : RowsCells w' A R b o L Z := fun r hr => by
  obtain ⟨e, A', cap', b', o', c, l, f, g⟩ := h r hr
  exact ⟨e, A', cap', b', o', k _ _ c, l, f, fun j hj => k _ _ (g j hj)⟩
/-- A map as a value. -/
def MpAt (w : World) (x : Value) (S : Int) (R : Nat) (L : Nat → Nat) (Z : Nat → Nat → Bool) : Prop := ∃ v, x = .agg #[.int .u64 S, v] ∧ RowsB w v R L Z
theorem MpAt.keep {w w' : World} {x : Value} {S : Int} {R : Nat} {L : Nat → Nat} {Z : Nat → Nat → Bool} (h : MpAt w x S R L Z) (k : Keep w w') : MpAt w' x S R L Z := by
  obtain ⟨v, h1, h2⟩ := h
  exact ⟨v, h1, h2.keep k⟩
theorem MpAt.congr {w : World} {x : Value} {S : Int} {R : Nat} {L K : Nat → Nat} {Z Y : Nat → Nat → Bool} (h : MpAt w x S R L Z) (e : ∀ i, i < R → L i = K i) (f : ∀ i j, i < R → j < K i → Z i j = Y i j) : MpAt w x S R K Y := by
  obtain ⟨v, h1, h2⟩ := h
  exact ⟨v, h1, h2.congr e f⟩
theorem MpAt.one {w : World} {x : Value} {S : Int} {R : Nat} {L : Nat → Nat} {Z : Nat → Nat → Bool} (h : MpAt w x S R L Z) (r : RightM R L) : MpAt w x S R (fun _ => L 0) Z :=
  h.congr (fun i hi => r.2.2.2.2 i hi) fun _ _ _ _ => rfl
/-- A bool that tells whether something holds; the world stands. -/
def TellsW (w : World) (P : Prop) (e : Ending) (w' : World) : Prop := ∃ B : Bool, e = .returned (.bool B) ∧ (B = true ↔ P) ∧ w' = w
theorem told {w : World} {P : Prop} {e : Ending} {w' : World} (h : TellsB w P e w') (b : Bool) (hb : b = true ↔ P) : e = .returned (.bool b) ∧ Below w.heap.size w w' := by
  obtain ⟨c, h1, h2, h3⟩ := h
  refine ⟨?_, h3⟩
  rw [h1]
  cases b <;> cases c <;> simp_all
/-- The table of layer 2 stands where what was there is there. -/
theorem tabAt_keep {w w' : World} {d : List Nat} (h : TabAt 0 d w) (k : Keep w w') : TabAt 0 d w' := fun j hj => k _ _ (h j hj)
def put2 (w : World) (g : Nat) (a0 a1 : Value) : World := (w.setCell ⟨g, 0, none⟩ a0).setCell ⟨g, 1, none⟩ a1
theorem put2_eq (w : World) (g : Nat) (a0 a1 : Value) : put2 w g a0 a1 = putCells w g 0 [a0, a1] := by simp only [put2, putCells]
theorem put2_below {Bd : Nat} {w wr : World} {g : Nat} (h : Below Bd w wr) (hg : Bd ≤ g) (a0 a1 : Value) : Below Bd w (put2 wr g a0 a1) := by
  rw [put2_eq]; exact putCells_below hg _ _ _ h
theorem put2_blk {w : World} {g : Nat} {t : TypeId} {x0 x1 : Value} (h : Blk w g t #[x0, x1]) (a0 a1 : Value) : Blk (put2 w g a0 a1) g t #[a0, a1] := by
  rw [put2_eq]; exact putCells_blk [a0, a1] [x0, x1] [] w 0 rfl rfl h
theorem put2_other {w : World} {g q : Nat} {t : TypeId} {cs : Array Value} (h : Blk w q t cs) (hq : q ≠ g) (a0 a1 : Value) : Blk (put2 w g a0 a1) q t cs :=
  (h.other (a := ⟨g, 0, none⟩) hq a0).other (a := ⟨g, 1, none⟩) hq a1
theorem put2_heap (w : World) (g : Nat) (x y : Value) (q : Nat) (h : q ≠ g) : (put2 w g x y).heap[q]? = w.heap[q]? := by
  unfold put2
  rw [Below.heap_setCell _ _ _ q h, Below.heap_setCell _ _ _ q h]

theorem info4 : (Tryd.prog.info? 4).map (fun i => (i.zero, i.size, i.bytes)) = some (some (.bool false), 1, 1) := by kernel_rfl
theorem info33 : (Tryd.prog.info? 33).map (fun i => (i.zero, i.size, i.bytes)) = some (some (.slice none 0 0), 1, 24) := by kernel_rfl
theorem info4' : ∃ i, Tryd.prog.info? 4 = some i ∧ i.zero = some (.bool false) ∧ i.size = 1 ∧ i.bytes = 1 := by
  obtain ⟨i, hi, hzz⟩ := Option.map_eq_some_iff.1 info4
  simp only [Prod.mk.injEq] at hzz
  exact ⟨i, hi, hzz⟩
theorem info33' : ∃ i, Tryd.prog.info? 33 = some i ∧ i.zero = some (.slice none 0 0) ∧ i.size = 1 ∧ i.bytes = 24 := by
  obtain ⟨i, hi, hzz⟩ := Option.map_eq_some_iff.1 info33
  simp only [Prod.mk.injEq] at hzz
  exact ⟨i, hi, hzz⟩

set_option maxHeartbeats 1600000 in
theorem mfits_any (r c : Int) (w : World) : Calls Tryd.prog 24 #[.int .i64 r, .int .i64 c] w fun e w' => e = .returned (.bool (fitsM r c)) ∧ w' = w := by
  by_cases c1 : 1 ≤ r
  rotate_left
  · have E : Hid (fitsM r c = false) := decide_eq_false (by omega)
    go_enter Tryd.func24, Tryd.ntmps24
    go_wp2
    go_ret
    exact ⟨by rw [E.out]; rfl, rfl⟩
  by_cases c2 : r ≤ 16
  rotate_left
  · have E : Hid (fitsM r c = false) := decide_eq_false (by omega)
    go_enter Tryd.func24, Tryd.ntmps24
    go_wp2
    go_ret
    exact ⟨by rw [E.out]; rfl, rfl⟩
  by_cases c4 : 1 ≤ c
  rotate_left
  · have E : Hid (fitsM r c = false) := decide_eq_false (by omega)
    go_enter Tryd.func24, Tryd.ntmps24
    go_wp2
    go_ret
    exact ⟨by rw [E.out]; rfl, rfl⟩
  by_cases c5 : c ≤ 256
  rotate_left
  · have E : Hid (fitsM r c = false) := decide_eq_false (by omega)
    go_enter Tryd.func24, Tryd.ntmps24
    go_wp2
    go_ret
    exact ⟨by rw [E.out]; rfl, rfl⟩
  have E : Hid (fitsM r c = true) := decide_eq_true (by omega)
  go_enter Tryd.func24, Tryd.ntmps24
  go_wp2
  go_ret
  exact ⟨by rw [E.out]; rfl, rfl⟩
end Go.Proofs.YtkfhofgmjhnknaaDoor
