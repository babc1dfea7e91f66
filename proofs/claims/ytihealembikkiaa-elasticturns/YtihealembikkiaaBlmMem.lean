
/-
  How filters lie in memory, and what the functions of layer 10 (bloom) that write no row answer.
-/
import Derived.Test.YtihealembikkiaaHashMore
import Derived.Deep.AppendLies
import Derived.OwnWalk
namespace Go.Proofs.Ytihealembikkiaa.L10
open Go.RowKit Fm Bl L2 Go.Deep
set_option linter.unusedVariables false
set_option maxRecDepth 20000

/-- Bits that can be read, whoever made them. -/
def BoolsAt (w : World) (v : Value) (n : Nat) (B : Nat → Bool) : Prop :=
  ∃ (A : Option Addr) (cap b o : Nat), v = .slice A n cap ∧ n ≤ cap ∧ (0 < n → A = some ⟨b, o, none⟩) ∧ ∀ i, i < n → w.cell? ⟨b, o + i, none⟩ = some (.bool (B i))
theorem BoolsAt.keep {w w' : World} {v : Value} {n : Nat} {B : Nat → Bool} (h : BoolsAt w v n B) (k : Keep w w') : BoolsAt w' v n B := by
  obtain ⟨A, cap, b, o, h1, h2, h3, h4⟩ := h
  exact ⟨A, cap, b, o, h1, h2, h3, fun i hi => k _ _ (h4 i hi)⟩
theorem BoolsAt.congr {w : World} {v : Value} {n : Nat} {B C : Nat → Bool} (h : BoolsAt w v n B) (e : ∀ i, i < n → B i = C i) : BoolsAt w v n C := by
  obtain ⟨A, cap, b, o, h1, h2, h3, h4⟩ := h
  exact ⟨A, cap, b, o, h1, h2, h3, fun i hi => by rw [← e i hi]; exact h4 i hi⟩
/-- Places that can be read. -/
def PlacesAt (w : World) (v : Value) (K : Nat) (p : Nat → Nat) : Prop :=
  ∃ (A : Option Addr) (cap b o : Nat), v = .slice A K cap ∧ K ≤ cap ∧ (0 < K → A = some ⟨b, o, none⟩) ∧ ∀ i, i < K → w.cell? ⟨b, o + i, none⟩ = some (.int .i64 (p i : Int))
theorem PlacesAt.keep {w w' : World} {v : Value} {K : Nat} {p : Nat → Nat} (h : PlacesAt w v K p) (k : Keep w w') : PlacesAt w' v K p := by
  obtain ⟨A, cap, b, o, h1, h2, h3, h4⟩ := h
  exact ⟨A, cap, b, o, h1, h2, h3, fun i hi => k _ _ (h4 i hi)⟩
/-- A filter as a value. -/
def FilterAt (w : World) (x : Value) (S H : Int) (n : Nat) (B : Nat → Bool) : Prop := ∃ v, x = .agg #[.int .u64 S, .int .i64 H, v] ∧ BoolsAt w v n B
theorem FilterAt.keep {w w' : World} {x : Value} {S H : Int} {n : Nat} {B : Nat → Bool} (h : FilterAt w x S H n B) (k : Keep w w') : FilterAt w' x S H n B := by
  obtain ⟨v, h1, h2⟩ := h
  exact ⟨v, h1, h2.keep k⟩
theorem FilterAt.congr {w : World} {x : Value} {S H : Int} {n : Nat} {B C : Nat → Bool} (h : FilterAt w x S H n B) (e : ∀ i, i < n → B i = C i) : FilterAt w x S H n C := by
  obtain ⟨v, h1, h2⟩ := h
  exact ⟨v, h1, h2.congr e⟩
/-- A number that an int holds. -/
def I (h : Int) : Prop := -9223372036854775808 ≤ h ∧ h ≤ 9223372036854775807

def put3 (w : World) (g : Nat) (a0 a1 a2 : Value) : World := ((w.setCell ⟨g, 0, none⟩ a0).setCell ⟨g, 1, none⟩ a1).setCell ⟨g, 2, none⟩ a2
theorem put3_eq (w : World) (g : Nat) (a0 a1 a2 : Value) : put3 w g a0 a1 a2 = putCells w g 0 [a0, a1, a2] := by simp only [put3, putCells]
theorem put3_below {Bd : Nat} {w wr : World} {g : Nat} (h : Below Bd w wr) (hg : Bd ≤ g) (a0 a1 a2 : Value) : Below Bd w (put3 wr g a0 a1 a2) := by
  rw [put3_eq]; exact putCells_below hg _ _ _ h
theorem put3_blk {w : World} {g : Nat} {t : TypeId} {x0 x1 x2 : Value} (h : Blk w g t #[x0, x1, x2]) (a0 a1 a2 : Value) : Blk (put3 w g a0 a1 a2) g t #[a0, a1, a2] := by
  rw [put3_eq]; exact putCells_blk [a0, a1, a2] [x0, x1, x2] [] w 0 rfl rfl h
theorem put3_other {w : World} {g q : Nat} {t : TypeId} {cs : Array Value} (h : Blk w q t cs) (hq : q ≠ g) (a0 a1 a2 : Value) : Blk (put3 w g a0 a1 a2) q t cs :=
  ((h.other (a := ⟨g, 0, none⟩) hq a0).other (a := ⟨g, 1, none⟩) hq a1).other (a := ⟨g, 2, none⟩) hq a2

theorem info3 : (Try.prog.info? 3).map (fun i => (i.zero, i.size, i.bytes)) = some (some (.int .i64 0), 1, 8) := by kernel_rfl
theorem info4 : (Try.prog.info? 4).map (fun i => (i.zero, i.size, i.bytes)) = some (some (.bool false), 1, 1) := by kernel_rfl
theorem place_step {w : World} {g K k : Nat} {F : Nat → Nat} (h : w.rowIs g 3 K (fun j => if j < k then .int .i64 (F j : Int) else .int .i64 0)) :
    (w.setCell ⟨g, k, none⟩ (.int .i64 (F k : Int))).drew.rowIs g 3 K (fun j => if j < k + 1 then .int .i64 (F j : Int) else .int .i64 0) := by
  refine World.rowIs.congr (World.rowIs.set h k _) fun j hj => ?_
  by_cases e : j = k
  · subst e; simp
  · by_cases e2 : j < k
    · simp [e, e2, show j < k + 1 by omega]
    · simp [e, e2, show ¬ j < k + 1 by omega]
end Go.Proofs.Ytihealembikkiaa.L10
