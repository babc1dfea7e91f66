/-
  A header that comes in: what is known of it.
-/
import Derived.Test.YtjbpbahaekbmlaaIp6Awake
import Derived.ProofKit
import Derived.OpenShut
import Derived.SizedLaws
import Derived.Lib.SmallJoins
import Derived.Deep.SlicePairs
namespace Go.Proofs.Ytjbpbahaekbmlaa
open Go.RowKit Oc Ip6 Go.Deep Go.ChangeShapes Go.WideShapes Go.Joins
set_option linter.unusedVariables false

theorem array7 {α : Type} {cs : Array α} (h : cs.size = 7) : ∃ c0 c1 c2 c3 c4 c5 c6, cs = #[c0, c1, c2, c3, c4, c5, c6] := by
  obtain ⟨l⟩ := cs
  match l, h with
  | [c0, c1, c2, c3, c4, c5, c6], _ => exact ⟨c0, c1, c2, c3, c4, c5, c6, rfl⟩
theorem cellsH : Try.prog.cellsOf 25 = 7 := by kernel_rfl
theorem cellsX : Try.prog.cellsOf 49 = 2 := by kernel_rfl
theorem cells3 : Try.prog.cellsOf 3 = 1 := by kernel_rfl
theorem cells9 : Try.prog.cellsOf 9 = 1 := by kernel_rfl
theorem cellsC : Try.prog.cellsOf 23 = 1 := by kernel_rfl
theorem bytesX : Try.prog.bytesOf 49 = 24 := by kernel_rfl
/-- The chain that comes in. -/
theorem open_chain {H : Type} {enc : TypeId × Value → H} {w : World} {n : Nat} {v : Value} {y : DataW H × List MemPlace} (h : DataW.trod enc Try.prog w 0 (fun _ => true) true n 23 [v] = some y) (hw : ∀ m ∈ y.1.weights Try.prog 23, m ≤ reachBytes) :
    ∃ C : List Ex, ChAt w v C ∧ C.length * 24 ≤ 140737488355328 := by
  rcases open_slice_pairs Try.underlying23 Try.underlying49 cellsX rfl rfl (by kernel_rfl) (by kernel_rfl) h with ⟨e2, _⟩ | ⟨a, len, cap, mm, n, V0, V1, D0, D1, P0, P1, e2, _, hl, _, hmm, hy, hx⟩
  · simp only [List.cons.injEq, and_true] at e2
    subst e2
    exact ⟨[], ChAt.none w, by simp⟩
  · simp only [List.cons.injEq, and_true] at e2
    subst e2
    simp only [if_true] at hmm
    have kinds : ∀ i, i < len → ∃ (x : Int) (d : List UInt8), V0 i = .int .i64 x ∧ V1 i = .string (bsL d) := fun i hi => by
      obtain ⟨_, _, g0, g1⟩ := hx i (by omega)
      obtain ⟨x, ex, _, _⟩ := DataW.trod_int Try.underlying3 g0
      obtain ⟨d, ed, _, _⟩ := DataW.trod_string Try.underlying9 g1
      simp only [List.cons.injEq, and_true] at ex ed
      exact ⟨x, d.data.toList, ex, by rw [ed, ← bsL_of]⟩
    have bound : len * 24 ≤ 140737488355328 := by
      have e := hw ((len + (mm - len)) * Try.prog.bytesOf 49) (by rw [hy]; simp [DataW.weights, Try.underlying23])
      rw [bytesX] at e
      unfold reachBytes at e
      omega
    refine ⟨(List.range len).map fun i => ⟨intOf (V0 i), match V1 i with | .string s => s.data.toList | _ => []⟩, ?_, by simpa using bound⟩
    by_cases h0 : len = 0
    · subst h0
      exact ⟨_, cap, 0, 0, rfl, hl, fun h => (by simp at h), fun i x h => (by simp at h)⟩
    · obtain ⟨b, o, sp⟩ := a
      have hs : sp = none := by simpa [Addr.add] using World.cell?_spot (hx 0 (by omega)).1
      subst hs
      refine ⟨_, cap, b, o, by simp, by simpa using hl, fun _ => rfl, fun i x hi => ?_⟩
      have hil : i < len := by
        rcases Nat.lt_or_ge i len with h1 | h1
        · exact h1
        · rw [List.getElem?_eq_none (by simpa using h1)] at hi; cases hi
      obtain ⟨c1, c2, _, _⟩ := hx i (by omega)
      obtain ⟨x', d', ex, ed⟩ := kinds i hil
      rw [add_plain] at c1 c2
      simp [hil] at hi
      subst hi
      simp only [ex, ed] at c1 c2 ⊢
      refine ⟨c1, ?_⟩
      rw [← bsL_of]
      exact c2
theorem open_hdr {H : Type} {enc : TypeId × Value → H} {w : World} {r : Reach} {b0 : Nat} {v : Value} {d : DataW H} {p : List MemPlace} (hv : Value.okWide Try.prog w r b0 25 v)
    (h : DataW.Trod enc Try.prog w 0 (fun _ => true) true 25 v d p) (hw : ∀ m ∈ d.weights Try.prog 25, m ≤ reachBytes) : ∃ F : Hd, HdAt w v F ∧ F.ch.length * 24 ≤ 140737488355328 := by
  obtain ⟨cs, rfl, hsz⟩ := okWide_struct Try.underlying25 hv
  obtain ⟨c0, c1, c2, c3, c4, c5, c6, rfl⟩ := array7 (hsz.trans cellsH)
  obtain ⟨fuel, hf⟩ := h
  obtain ⟨xs, n, _, hd, hl, hlen, hx⟩ := DataW.trod_struct Try.underlying25 hf
  match xs, hlen with
  | [y0, y1, y2, y3, y4, y5, y6], _ =>
    have h0 : DataW.trod enc Try.prog w 0 (fun _ => true) true n 3 [c0] = some y0 := by
      have e := hx 0 _ rfl
      change DataW.trod enc Try.prog w 0 (fun _ => true) true n 3 (List.take (Try.prog.cellsOf 3) (List.drop 0 [c0, c1, c2, c3, c4, c5, c6])) = some y0 at e
      rw [cells3] at e
      exact e
    have h1 : DataW.trod enc Try.prog w 0 (fun _ => true) true n 3 [c1] = some y1 := by
      have e := hx 1 _ rfl
      change DataW.trod enc Try.prog w 0 (fun _ => true) true n 3 (List.take (Try.prog.cellsOf 3) (List.drop 1 [c0, c1, c2, c3, c4, c5, c6])) = some y1 at e
      rw [cells3] at e
      exact e
    have h2 : DataW.trod enc Try.prog w 0 (fun _ => true) true n 3 [c2] = some y2 := by
      have e := hx 2 _ rfl
      change DataW.trod enc Try.prog w 0 (fun _ => true) true n 3 (List.take (Try.prog.cellsOf 3) (List.drop 2 [c0, c1, c2, c3, c4, c5, c6])) = some y2 at e
      rw [cells3] at e
      exact e
    have h3 : DataW.trod enc Try.prog w 0 (fun _ => true) true n 3 [c3] = some y3 := by
      have e := hx 3 _ rfl
      change DataW.trod enc Try.prog w 0 (fun _ => true) true n 3 (List.take (Try.prog.cellsOf 3) (List.drop 3 [c0, c1, c2, c3, c4, c5, c6])) = some y3 at e
      rw [cells3] at e
      exact e
    have h4 : DataW.trod enc Try.prog w 0 (fun _ => true) true n 9 [c4] = some y4 := by
      have e := hx 4 _ rfl
      change DataW.trod enc Try.prog w 0 (fun _ => true) true n 9 (List.take (Try.prog.cellsOf 9) (List.drop 4 [c0, c1, c2, c3, c4, c5, c6])) = some y4 at e
      rw [cells9] at e
      exact e
    have h5 : DataW.trod enc Try.prog w 0 (fun _ => true) true n 9 [c5] = some y5 := by
      have e := hx 5 _ rfl
      change DataW.trod enc Try.prog w 0 (fun _ => true) true n 9 (List.take (Try.prog.cellsOf 9) (List.drop 5 [c0, c1, c2, c3, c4, c5, c6])) = some y5 at e
      rw [cells9] at e
      exact e
    have h6 : DataW.trod enc Try.prog w 0 (fun _ => true) true n 23 [c6] = some y6 := by
      have e := hx 6 _ rfl
      change DataW.trod enc Try.prog w 0 (fun _ => true) true n 23 (List.take (Try.prog.cellsOf 23) (List.drop 6 [c0, c1, c2, c3, c4, c5, c6])) = some y6 at e
      rw [cellsC] at e
      exact e
    obtain ⟨a0, e0, _, _⟩ := DataW.trod_int Try.underlying3 h0
    obtain ⟨a1, e1, _, _⟩ := DataW.trod_int Try.underlying3 h1
    obtain ⟨a2, e2, _, _⟩ := DataW.trod_int Try.underlying3 h2
    obtain ⟨a3, e3, _, _⟩ := DataW.trod_int Try.underlying3 h3
    obtain ⟨s4, e4, _, _⟩ := DataW.trod_string Try.underlying9 h4
    obtain ⟨s5, e5, _, _⟩ := DataW.trod_string Try.underlying9 h5
    have hd1 : d = .agg [y0.1, y1.1, y2.1, y3.1, y4.1, y5.1, y6.1] := by
      simp only [Prod.mk.injEq] at hd
      exact hd.1
    obtain ⟨C, hC, hB⟩ := open_chain h6 (fun m hm => hw m (by
      rw [hd1]
      simp only [DataW.weights, Try.underlying25]
      exact DataW.weights_mem_each (j := 6) (t := 23) (d := y6.1) rfl rfl m hm))
    simp only [List.cons.injEq, and_true] at e0 e1 e2 e3 e4 e5
    subst e0 e1 e2 e3 e4 e5
    exact ⟨⟨a0, a1, a2, a3, s4.data.toList, s5.data.toList, C⟩, ⟨c6, by rw [← bsL_of, ← bsL_of], hC⟩, hB⟩
end Go.Proofs.Ytjbpbahaekbmlaa
