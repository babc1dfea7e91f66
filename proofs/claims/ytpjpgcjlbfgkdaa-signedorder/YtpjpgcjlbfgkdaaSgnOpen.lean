
/-
  A sketch of layer 12 that comes in: what is known of it.
-/
import Derived.Test.YtpjpgcjlbfgkdaaSgnMem
import Derived.Test.YtpjpgcjlbfgkdaaLstOpen
namespace Go.Proofs.Ytpjpgcjlbfgkdaa
open Go.RowKit Fm Bl Sg L2 Go.Deep Go.ChangeShapes Go.WideShapes Go.Joins
set_option linter.unusedVariables false

/-- What a sketch is. -/
structure Sgt where
  S : Int
  R : Nat
  L : Nat → Nat
  Z : Nat → Nat → Int
def SgIn (w : World) (v : Value) (F : Sgt) : Prop := SgAt w v F.S F.R F.L F.Z ∧ U F.S ∧ F.R ≤ 9223372036854775807
theorem cells_sg : Try.prog.cellsOf 25 = 2 := by kernel_rfl
set_option maxRecDepth 20000 in
theorem open_sg {H : Type} {enc : TypeId × Value → H} {w : World} {r : Reach} {b0 : Nat} {v : Value} {d : DataW H} {p : List MemPlace} (hv : Value.okWide Try.prog w r b0 25 v)
    (h : DataW.Trod enc Try.prog w 0 (fun _ => true) true 25 v d p) : ∃ F : Sgt, SgIn w v F := by
  obtain ⟨c0, c1, y0, y1, m, rfl, rfl, rfl, h0, h1⟩ := open_agg2 Try.underlying25 (by kernel_rfl) cells_sg hv h
  obtain ⟨S, e0, _, w0⟩ := DataW.trod_int Try.underlying22 h0
  simp only [List.cons.injEq, and_true] at e0
  subst e0
  obtain ⟨R, L, Z, hr, hR⟩ := open_i64ss Try.underlying23 Try.underlying33 Try.underlying3 (by kernel_rfl) (by kernel_rfl) h1
  exact ⟨⟨S, R, L, Z⟩, ⟨_, rfl, hr⟩, bounds_u64 w0, hR⟩
end Go.Proofs.Ytpjpgcjlbfgkdaa
