
/-
  Items that come in: what is known of them.
-/
import Derived.Test.YtejdfahokbheoaaHevMem
import Derived.ProofKit
import Derived.OpenShut
import Derived.Lib.SmallJoins
import Derived.Deep.SlicePairs
namespace Go.Proofs.Ytejdfahokbheoaa
open Go.RowKit Hv Go.Deep Go.ChangeShapes Go.WideShapes Go.Joins
set_option linter.unusedVariables false

/-- Items that come in, as a list. -/
def ItemsL (w : World) (v : Value) (l : List Itm) : Prop := ItsL w v l ∧ l.length ≤ 9223372036854775807 ∧ ∀ (i : Nat) (x : Itm), l[i]? = some x → x.k.size ≤ 9223372036854775807 ∧ -9223372036854775808 ≤ x.c ∧ x.c ≤ 9223372036854775807
theorem made_get {f : Nat → Itm} {n i : Nat} {x : Itm} (h : ((List.range n).map f)[i]? = some x) : i < n ∧ x = f i := by
  have li := (List.getElem?_eq_some_iff.1 h).1
  rw [List.length_map, List.length_range] at li
  rw [List.getElem?_map, List.getElem?_range li] at h
  exact ⟨li, by simpa using h.symm⟩
theorem bounds_c {x : Int} (h : (Lit.int .i64 x).wf = true) : -9223372036854775808 ≤ x ∧ x ≤ 9223372036854775807 := bounds_i64 h
theorem cells_hi : Try.prog.cellsOf 30 = 2 := by kernel_rfl
set_option maxRecDepth 20000 in
theorem open_its {H : Type} {enc : TypeId × Value → H} {w : World} {r : Reach} {b0 : Nat} {v : Value} {d : DataW H} {p : List MemPlace} (hv : Value.okWide Try.prog w r b0 22 v)
    (h : DataW.Trod enc Try.prog w 0 (fun _ => true) true 22 v d p) : ∃ l : List Itm, ItemsL w v l := by
  obtain ⟨b, len, cap, rfl⟩ := okWide_slice Try.underlying22 hv
  obtain ⟨fuel, hf⟩ := h
  rcases open_slice_pairs Try.underlying22 Try.underlying30 cells_hi rfl rfl (by kernel_rfl) (by kernel_rfl) hf with ⟨e2, _⟩ | ⟨a, l, c, mm, n, V0, V1, D0, D1, P0, P1, e2, _, hl, hm, hmm, hy, hx⟩
  · simp [Value.cells] at e2
    obtain ⟨rfl, rfl, rfl⟩ := e2
    exact ⟨[], its_none w, by simp, fun i x e => by simp at e⟩
  · simp [Value.cells] at e2
    obtain ⟨rfl, rfl, rfl⟩ := e2
    simp only [if_true] at hmm
    have kinds : ∀ i, i < len → ∃ (s : ByteArray) (x : Int), V0 i = .string s ∧ V1 i = .int .i64 x ∧ s.size ≤ 9223372036854775807 ∧ (-9223372036854775808 ≤ x ∧ x ≤ 9223372036854775807) := fun i hi => by
      obtain ⟨_, _, g0, g1⟩ := hx i (by omega)
      obtain ⟨s, es, _, hs⟩ := DataW.trod_string Try.underlying9 g0
      obtain ⟨x, ex, _, wx⟩ := DataW.trod_int Try.underlying3 g1
      simp only [List.cons.injEq, and_true] at ex es
      exact ⟨s, x, es, ex, by unfold maxLen at hs; exact hs, bounds_c wx⟩
    have ll : ((List.range len).map fun i => (⟨match V0 i with | .string s => s | _ => ⟨#[]⟩, match V1 i with | .int _ x => x | _ => 0⟩ : Itm)).length = len := by rw [List.length_map, List.length_range]
    refine ⟨(List.range len).map fun i => ⟨match V0 i with | .string s => s | _ => ⟨#[]⟩, match V1 i with | .int _ x => x | _ => 0⟩, ?_, by rw [ll]; unfold maxLen at hm; omega, fun i x e => ?_⟩
    · by_cases h0 : len = 0
      · subst h0
        exact ⟨_, cap, 0, 0, rfl, Nat.zero_le _, fun h => by simp at h, fun i x h => by simp at h⟩
      · obtain ⟨b, o, sp⟩ := a
        have hs : sp = none := by simpa [Addr.add] using World.cell?_spot (hx 0 (by omega)).1
        subst hs
        refine ⟨some ⟨b, o, none⟩, cap, b, o, by rw [ll], by rw [ll]; exact hl, fun _ => rfl, fun i x e => ?_⟩
        obtain ⟨hi, rfl⟩ := made_get e
        obtain ⟨c1, c2, _, _⟩ := hx i (by omega)
        obtain ⟨s, z, e0, e1, _, _⟩ := kinds i hi
        rw [add_plain] at c1 c2
        rw [e0] at c1
        rw [e1] at c2
        refine ⟨?_, ?_⟩
        · simp only [e0]
          exact c1
        · simp only [e1]
          exact c2
    · obtain ⟨hi, rfl⟩ := made_get e
      obtain ⟨s, z, e0, e1, h1, h2⟩ := kinds i hi
      simp only [e0, e1]
      exact ⟨h1, h2⟩
end Go.Proofs.Ytejdfahokbheoaa
