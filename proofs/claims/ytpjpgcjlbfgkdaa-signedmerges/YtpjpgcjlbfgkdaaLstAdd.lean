
/-
  New and Add of layer 11 (least): what they answer.
-/
import Derived.Test.YtpjpgcjlbfgkdaaLstOwn
import Derived.Test.YtpjpgcjlbfgkdaaHeldKit
namespace Go.Proofs.Ytpjpgcjlbfgkdaa
open Go.RowKit Fm Bl Lt L2 Go.Deep
set_option linter.unusedVariables false

/-- A sketch that is told, with no error. -/
def GaveS (w : World) (S M : Int) (R n : Nat) (Z : Nat → Nat → Int) (e : Ending) (w' : World) : Prop := ∃ x, e = .returned (.tuple #[x, .int .i64 0]) ∧ Held (fun q => w.heap.size ≤ q) (fun u => SkAt u x S M R (fun _ => n) Z) w' ∧ Below w.heap.size w w'
/-- Nothing, and an error. -/
def GaveNone (w : World) (e : Ending) (w' : World) : Prop := e = .returned (.tuple #[.agg #[.int .u64 0, .int .i64 0, .slice none 0 0], .int .i64 1]) ∧ Below w.heap.size w w'
theorem skAt_none (w : World) (L : Nat → Nat) (Z : Nat → Nat → Int) : SkAt w (.agg #[.int .u64 0, .int .i64 0, .slice none 0 0]) 0 0 0 L Z := ⟨_, rfl, none, 0, 0, 0, fun _ => .slice none 0 0, rfl, Nat.le_refl _, fun h => by omega, fun r hr => by omega⟩
theorem RowsI.put3 {w : World} {B b R n cap q : Nat} {G C : Nat → Nat} {Z : Nat → Nat → Int} (h : TabIn w B b R n R G C Z) (hc : R ≤ cap) (hq : q < B) (x y z : Value) : RowsI (put3 w q x y z) (.slice (some ⟨b, 0, none⟩) R cap) R (fun _ => n) Z :=
  (((h.other (a := ⟨q, 0, none⟩) hq x).other (a := ⟨q, 1, none⟩) hq y).other (a := ⟨q, 2, none⟩) hq z).rows hc
/-- A table of the call's own stands where blocks below it are written. -/
theorem rowsI_far {w u : World} {B b R n cap q base : Nat} {G C : Nat → Nat} {Z : Nat → Nat → Int} {x y z : Value} (h : TabIn w B b R n R G C Z) (hc : R ≤ cap) (hq : q < B) (hb : base ≤ B) (e : Same (fun p => base ≤ p) (put3 w q x y z) u) : RowsI u (.slice (some ⟨b, 0, none⟩) R cap) R (fun _ => n) Z :=
  (h.of fun p h1 h2 => by
    rw [put3_eq] at e
    rw [e.2 p (by omega) (by rw [putCells_size]; exact h2), putCells_heap _ _ _ _ (by omega)]).rows hc
theorem row_made (w : World) (n : Nat) : RowN (w.alloc (.cells (madeCells #[.int .i64 0] n) 3)) w.heap.size n (fun _ => 0) := by
  obtain ⟨c, q1, q2, q3⟩ := World.rowIs_made w (.int .i64 0) n 3
  exact ⟨c, q1, fun i hi => q3 i hi⟩
end Go.Proofs.Ytpjpgcjlbfgkdaa
