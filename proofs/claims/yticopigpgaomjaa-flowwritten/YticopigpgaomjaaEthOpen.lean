/-
  A frame that comes in: what is known of it; and a frame that was written is taken back.
-/
import Derived.Test.YticopigpgaomjaaEthTake
import Derived.ProofKit
import Derived.OpenShut
import Derived.Lib.SmallJoins
import Derived.Deep.SlicePairs
namespace Go.Proofs.Yticopigpgaomjaa.L5
open Go.RowKit Oc Et Go.Deep Go.ChangeShapes Go.WideShapes Go.Joins
set_option linter.unusedVariables false

theorem cells25 : Try.prog.cellsOf 40 = 4 := by kernel_rfl
theorem cells45 : Try.prog.cellsOf 83 = 2 := by kernel_rfl
set_option maxRecDepth 20000 in
theorem open_frame {H : Type} {enc : TypeId × Value → H} {w : World} {r : Reach} {b0 : Nat} {v : Value} {d : DataW H} {p : List MemPlace} (hv : Value.okWide Try.prog w r b0 40 v)
    (h : DataW.Trod enc Try.prog w 0 (fun _ => true) true 40 v d p) : ∃ F : Fr, FrameAt w v F := by
  obtain ⟨c0, c1, c2, c3, y0, y1, y2, y3, m, rfl, rfl, rfl, h0, h1, h2, h3⟩ := open_agg4 Try.underlying40 (by kernel_rfl) cells25 hv h
  obtain ⟨s0, e0, _, _⟩ := DataW.trod_string Try.underlying9 h0
  obtain ⟨s1, e1, _, _⟩ := DataW.trod_string Try.underlying9 h1
  obtain ⟨T, e3, _, _⟩ := DataW.trod_int Try.underlying3 h3
  simp only [List.cons.injEq, and_true] at e0 e1 e3
  subst e0 e1 e3
  rcases open_slice_pairs Try.underlying38 Try.underlying83 cells45 rfl rfl (by kernel_rfl) (by kernel_rfl) h2 with ⟨e2, _⟩ | ⟨a, len, cap, mm, n, V0, V1, D0, D1, P0, P1, e2, _, hl, _, hmm, _, hx⟩
  · simp only [List.cons.injEq, and_true] at e2
    subst e2
    exact ⟨⟨s0.data.toList, s1.data.toList, 0, fun _ => 0, fun _ => 0, T⟩, _, by rw [← bsL_of, ← bsL_of], none, 0, 0, 0, rfl, Nat.le_refl _, fun (h : 0 < 0) => absurd h (by omega), fun i (h : i < 0) => absurd h (by omega)⟩
  · simp only [List.cons.injEq, and_true] at e2
    subst e2
    simp only [if_true] at hmm
    have ints : ∀ i, i < len → ∃ x y : Int, V0 i = .int .i64 x ∧ V1 i = .int .i64 y := fun i hi => by
      obtain ⟨_, _, g0, g1⟩ := hx i (by omega)
      obtain ⟨x, ex, _, _⟩ := DataW.trod_int Try.underlying3 g0
      obtain ⟨y, ey, _, _⟩ := DataW.trod_int Try.underlying3 g1
      simp only [List.cons.injEq, and_true] at ex ey
      exact ⟨x, y, ex, ey⟩
    refine ⟨⟨s0.data.toList, s1.data.toList, len, fun i => intOf (V0 i), fun i => intOf (V1 i), T⟩, _, by rw [← bsL_of, ← bsL_of], ?_⟩
    by_cases h0 : len = 0
    · subst h0
      exact ⟨_, cap, 0, 0, rfl, hl, fun (h : 0 < 0) => absurd h (by omega), fun i (h : i < 0) => absurd h (by omega)⟩
    · obtain ⟨b, o, sp⟩ := a
      have hs : sp = none := by simpa [Addr.add] using World.cell?_spot (hx 0 (by omega)).1
      subst hs
      refine ⟨_, cap, b, o, rfl, hl, fun _ => rfl, fun i hi => ?_⟩
      simp only at hi
      obtain ⟨c1, c2, _, _⟩ := hx i (by omega)
      obtain ⟨x, y, ex, ey⟩ := ints i hi
      rw [add_plain] at c1 c2
      simp only [ex, ey] at c1 c2 ⊢
      exact ⟨c1, c2⟩
theorem frame_back {w : World} {x : Value} {F : Fr} {b : List UInt8} (hR : RightP F) (h : FrameAt w x (frOf (headL F ++ b))) : FrameAt w x F := by
  obtain ⟨t1, t2, t3, t4, t5, t6, t7⟩ := taken_back F b hR
  rw [(fr_ok ⟨t1, t2⟩).1] at h
  obtain ⟨v, e, A, cap, bk, o, h1, h2, h3, h4⟩ := h
  simp only [t3, t4, t6] at e
  refine ⟨v, e, A, cap, bk, o, h1, h2, h3, fun i hi => ?_⟩
  obtain ⟨g1, g2⟩ := h4 i hi
  simp only at g1 g2
  rw [(t5 i hi).1] at g1
  rw [(t5 i hi).2] at g2
  exact ⟨g1, g2⟩
theorem rest_back {F : Fr} {b : List UInt8} (hR : RightP F) : restOf (headL F ++ b) = b := by
  obtain ⟨t1, t2, t3, t4, t5, t6, t7⟩ := taken_back F b hR
  rw [(fr_ok ⟨t1, t2⟩).2, t7]
end Go.Proofs.Yticopigpgaomjaa.L5
