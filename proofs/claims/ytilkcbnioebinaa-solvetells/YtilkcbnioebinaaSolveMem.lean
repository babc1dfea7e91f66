/-
  How rows of numbers lie in memory, and what keeps them there.
-/
import Derived.Test.YtilkcbnioebinaaPows
import Derived.Test.YtilkcbnioebinaaLinSolve
import Derived.WalkKit
import Derived.Below
import Derived.Deep.OwnRows
import Derived.Deep.AppendLies
import Derived.Deep.RegionHeld3
import Derived.Deep.DrawnRows
import Derived.Deep.LoopGhost
import Derived.Deep.RegionWith
namespace Go.Proofs.Ytilkcbnioebinaa
open Go.RowKit Fm

theorem info36 : (Try.prog.info? 36).map (fun i => (i.zero, i.size, i.bytes)) = some (some (.int .u64 0), 1, 8) := by kernel_rfl
theorem info30 : (Try.prog.info? 30).map (fun i => (i.zero, i.size, i.bytes)) = some (some (.slice none 0 0), 1, 24) := by kernel_rfl

/-- A slice of numbers: readable, whoever made it. -/
def IntsAt (w : World) (v : Value) (L : Nat) (z : Nat → Int) : Prop :=
  ∃ (A : Option Addr) (cap b o : Nat), v = .slice A L cap ∧ L ≤ cap ∧ (0 < L → A = some ⟨b, o, none⟩) ∧ ∀ c, c < L → w.cell? ⟨b, o + c, none⟩ = some (.int .u64 (z c)) ∧ U (z c)
/-- A slice of such slices. -/
def RowsAt (w : World) (v : Value) (R : Nat) (L : Nat → Nat) (Z : Nat → Nat → Int) : Prop :=
  ∃ (A : Option Addr) (cap b o : Nat) (V : Nat → Value), v = .slice A R cap ∧ R ≤ cap ∧ (0 < R → A = some ⟨b, o, none⟩) ∧ ∀ r, r < R → w.cell? ⟨b, o + r, none⟩ = some (V r) ∧ IntsAt w (V r) (L r) (Z r)

theorem IntsAt.form {w : World} {v : Value} {L : Nat} {z : Nat → Int} (h : IntsAt w v L z) : ∃ A cap, v = .slice A L cap := by
  obtain ⟨A, cap, _, _, e, _⟩ := h
  exact ⟨A, cap, e⟩
theorem RowsAt.form {w : World} {v : Value} {R : Nat} {L : Nat → Nat} {Z : Nat → Nat → Int} (h : RowsAt w v R L Z) : ∃ A cap, v = .slice A R cap := by
  obtain ⟨A, cap, _, _, _, e, _⟩ := h
  exact ⟨A, cap, e⟩

/-- What was there is there. -/
def Keep (w w' : World) : Prop := ∀ a v, w.cell? a = some v → w'.cell? a = some v
theorem Keep.refl (w : World) : Keep w w := fun _ _ h => h
theorem Keep.trans {a b c : World} (h : Keep a b) (k : Keep b c) : Keep a c := fun x v e => k x v (h x v e)
theorem keep_of_below {w w' : World} (h : Below w.heap.size w w') : Keep w w' := fun a v e => by
  rw [h.cell (World.block_lt_of_cell? w a e)]; exact e
theorem IntsAt.keep {w w' : World} {v : Value} {L : Nat} {z : Nat → Int} (h : IntsAt w v L z) (k : Keep w w') : IntsAt w' v L z := by
  obtain ⟨A, cap, b, o, h1, h2, h3, h4⟩ := h
  exact ⟨A, cap, b, o, h1, h2, h3, fun c hc => ⟨k _ _ (h4 c hc).1, (h4 c hc).2⟩⟩
theorem RowsAt.keep {w w' : World} {v : Value} {R : Nat} {L : Nat → Nat} {Z : Nat → Nat → Int} (h : RowsAt w v R L Z) (k : Keep w w') : RowsAt w' v R L Z := by
  obtain ⟨A, cap, b, o, V, h1, h2, h3, h4⟩ := h
  exact ⟨A, cap, b, o, V, h1, h2, h3, fun c hc => ⟨k _ _ (h4 c hc).1, (h4 c hc).2.keep k⟩⟩

/-- A bool that tells whether something holds; the world stands. -/
def TellsB (w : World) (P : Prop) (e : Ending) (w' : World) : Prop := ∃ B : Bool, e = .returned (.bool B) ∧ (B = true ↔ P) ∧ w' = w

def colsF (R : Nat) (L : Nat → Nat) : Nat := if R = 0 then 0 else L 0
theorem colsF_pos {R : Nat} (L : Nat → Nat) (h : 0 < R) : colsF R L = L 0 := if_neg (by omega)
/-- A system: rows of one length, and not too many. -/
def SysP (R : Nat) (L : Nat → Nat) : Prop := R ≤ 32 ∧ colsF R L ≤ 32 ∧ ∀ r, r < R → L r = colsF R L
theorem RowsAt.cell {w : World} {A : Option Addr} {R b o : Nat} {V : Nat → Value} {L : Nat → Nat} {Z : Nat → Nat → Int} (h3 : 0 < R → A = some ⟨b, o, none⟩) (h4 : ∀ r, r < R → w.cell? ⟨b, o + r, none⟩ = some (V r) ∧ IntsAt w (V r) (L r) (Z r)) {r : Nat} (hr : r < R) :
    A = some ⟨b, o, none⟩ ∧ ∃ A' cap', V r = .slice A' (L r) cap' ∧ w.cell? ⟨b, o + r, none⟩ = some (.slice A' (L r) cap') := by
  obtain ⟨c, A', cap', b', o', e, _⟩ := h4 r hr
  exact ⟨h3 (by omega), A', cap', e, by rw [c, e]⟩

set_option maxHeartbeats 400000 in
theorem cols_any (w : World) (v : Value) (R : Nat) (L : Nat → Nat) (Z : Nat → Nat → Int) (h : RowsAt w v R L Z) :
    Calls Try.prog 23 #[v] w fun e w' => e = .returned (.int .i64 (colsF R L : Int)) ∧ w' = w := by
  obtain ⟨A, cap, b, o, V, rfl, h2, h3, h4⟩ := h
  by_cases hR : R = 0
  · subst hR
    clear h4 h3
    go_enter Try.func23, Try.ntmps23
    go_wp2
    go_ret
    exact ⟨rfl, rfl⟩
  · obtain ⟨rfl, A', cap', _, c0⟩ := RowsAt.cell h3 h4 (r := 0) (by omega)
    rw [Nat.add_zero] at c0
    have hne : ((R : Int) == 0) = false := by simpa using hR
    have hix : (0 : Int) < R := by omega
    have G : Hid (colsF R L = L 0) := if_neg hR
    clear h4 h3 hR
    go_enter Try.func23, Try.ntmps23
    go_wp2
    go_ret
    exact ⟨by rw [G.out]; rfl, rfl⟩

set_option maxHeartbeats 800000 in
theorem sys_any (w : World) (v : Value) (R : Nat) (L : Nat → Nat) (Z : Nat → Nat → Int) (h : RowsAt w v R L Z) :
    Calls Try.prog 20 #[v] w (TellsB w (SysP R L)) := by
  have hcall := cols_any w v R L Z h
  obtain ⟨A, cap, b, o, V, rfl, h2, h3, h4⟩ := h
  have HC : Hid (Calls Try.prog 23 #[.slice A R cap] w fun e w' => e = .returned (.int .i64 (colsF R L : Int)) ∧ w' = w) := hcall
  have cell : Hid (∀ r, r < R → A = some ⟨b, o, none⟩ ∧ ∃ A' cap', V r = .slice A' (L r) cap' ∧ w.cell? ⟨b, o + r, none⟩ = some (.slice A' (L r) cap')) := fun r hr => RowsAt.cell h3 h4 hr
  clear hcall h3 h4
  by_cases hR : 32 < R
  · go_enter Try.func20, Try.ntmps20
    go_wp2_with fail
    refine HC.out.mono ?_
    rintro e w' ⟨rfl, rfl⟩
    go_wp2_with fail
    go_ret
    exact ⟨false, rfl, ⟨fun h => (by cases h), fun h => by have := h.1; omega⟩, rfl⟩
  by_cases hC : 32 < colsF R L
  · go_enter Try.func20, Try.ntmps20
    go_wp2_with fail
    refine HC.out.mono ?_
    rintro e w' ⟨rfl, rfl⟩
    go_wp2_with fail
    go_ret
    exact ⟨false, rfl, ⟨fun h => (by cases h), fun h => by have := h.2.1; omega⟩, rfl⟩
  go_enter Try.func20, Try.ntmps20
  go_wp2_with fail
  refine HC.out.mono ?_
  rintro e w' ⟨rfl, rfl⟩
  go_wp2_with fail
  go_loop [17] (fun i => ∃ k : Nat, (k ≤ R ∧ ∀ r, r < k → L r = colsF R L) ∧ i = .int .i64 (k : Int)) (fun i => R - (intOf i).toNat)
  case atStart => exact ⟨0, ⟨by omega, fun r hr => by omega⟩, rfl⟩
  case round =>
    obtain ⟨k, hk, rfl⟩ := hrel
    have HK : Hid (k ≤ R ∧ ∀ r, r < k → L r = colsF R L) := hk
    have hkR := hk.1
    clear hk
    by_cases hz : k < R
    · obtain ⟨rfl, A', cap', _, ck⟩ := cell.out k hz
      by_cases he : L k = colsF R L
      · have HE : Hid (L k = colsF R L) := he
        have hq : ((L k : Int) == (colsF R L : Int)) = true := by rw [he]; exact beq_self_eq_true _
        clear he
        go_wp2_with fail
        go_round
        case rel =>
          refine ⟨k + 1, ⟨by omega, fun r hr => ?_⟩, by go_num⟩
          by_cases e : r = k
          · rw [e]; exact HE.out
          · exact HK.out.2 r (by omega)
        case measure => simp [intOf]; omega
      · have HE : Hid (L k ≠ colsF R L) := he
        have hq : ((L k : Int) == (colsF R L : Int)) = false := by simp; omega
        clear he
        go_wp2_with fail
        go_ret
        exact ⟨false, rfl, ⟨fun h => (by cases h), fun h => absurd (h.2.2 k hz) HE.out⟩, rfl⟩
    · go_wp2_with fail
      go_ret
      exact ⟨true, rfl, ⟨fun _ => ⟨by omega, by omega, fun r hr => HK.out.2 r (by omega)⟩, fun _ => rfl⟩, rfl⟩

end Go.Proofs.Ytilkcbnioebinaa
