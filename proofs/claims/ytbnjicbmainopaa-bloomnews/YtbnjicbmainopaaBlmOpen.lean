
/-
  A filter that comes in, and keys that come in: what is known of them.
-/
import Derived.Test.YtbnjicbmainopaaBlmMem
import Derived.ProofKit
import Derived.OpenShut
import Derived.Lib.SmallJoins
import Derived.Deep.Grids
import Derived.Deep.Strs
namespace Go.Proofs.Ytbnjicbmainopaa
open Go.RowKit Fm Bl L2 Go.Deep Go.ChangeShapes Go.WideShapes Go.Joins
set_option linter.unusedVariables false

/-- What a filter is. -/
structure Flt where
  S : Int
  H : Int
  n : Nat
  B : Nat → Bool
def FilterIn (w : World) (v : Value) (F : Flt) : Prop := FilterAt w v F.S F.H F.n F.B ∧ U F.S ∧ I F.H
/-- Keys that can be read. -/
def StrsAt (w : World) (v : Value) (n : Nat) (L : Nat → ByteArray) : Prop :=
  ∃ A cap b o, v = .slice A n cap ∧ n ≤ cap ∧ (0 < n → A = some ⟨b, o, none⟩) ∧ ∀ i, i < n → w.cell? ⟨b, o + i, none⟩ = some (.string (L i))
theorem StrsAt.keep {w w' : World} {v : Value} {n : Nat} {L : Nat → ByteArray} (h : StrsAt w v n L) (k : Keep w w') : StrsAt w' v n L := by
  obtain ⟨A, cap, b, o, h1, h2, h3, h4⟩ := h
  exact ⟨A, cap, b, o, h1, h2, h3, fun i hi => k _ _ (h4 i hi)⟩
structure Lst where
  n : Nat
  L : Nat → ByteArray
def StrsIn (w : World) (v : Value) (F : Lst) : Prop := StrsAt w v F.n F.L ∧ F.n ≤ 9223372036854775807 ∧ ∀ i, i < F.n → (F.L i).size ≤ 9223372036854775807
theorem cells_ft : Try.prog.cellsOf 25 = 3 := by kernel_rfl
theorem u64_U {n : Int} (h : (Lit.int .u64 n).wf = true) : U n := bounds_u64 h
theorem i64_I {n : Int} (h : (Lit.int .i64 n).wf = true) : I n := bounds_i64 h
set_option maxRecDepth 20000 in
theorem open_filter {H : Type} {enc : TypeId × Value → H} {w : World} {r : Reach} {b0 : Nat} {v : Value} {d : DataW H} {p : List MemPlace} (hv : Value.okWide Try.prog w r b0 25 v)
    (h : DataW.Trod enc Try.prog w 0 (fun _ => true) true 25 v d p) : ∃ F : Flt, FilterIn w v F := by
  obtain ⟨c0, c1, c2, y0, y1, y2, m, rfl, rfl, rfl, h0, h1, h2⟩ := open_agg3 Try.underlying25 (by kernel_rfl) cells_ft hv h
  obtain ⟨S, e0, _, w0⟩ := DataW.trod_int Try.underlying22 h0
  obtain ⟨K, e1, _, w1⟩ := DataW.trod_int Try.underlying3 h1
  simp only [List.cons.injEq, and_true] at e0 e1
  subst e0 e1
  rcases open_bools Try.underlying23 Try.underlying4 (by kernel_rfl) h2 with ⟨e2, _⟩ | ⟨a, len, cap, B, e2, _, hl, _, _, hx⟩
  · simp only [List.cons.injEq, and_true] at e2
    subst e2
    exact ⟨⟨S, K, 0, fun _ => false⟩, ⟨_, rfl, none, 0, 0, 0, rfl, Nat.le_refl _, fun (h : 0 < 0) => absurd h (by omega), fun i (h : i < 0) => absurd h (by omega)⟩, u64_U w0, i64_I w1⟩
  · simp only [List.cons.injEq, and_true] at e2
    subst e2
    refine ⟨⟨S, K, len, B⟩, ⟨_, rfl, ?_⟩, u64_U w0, i64_I w1⟩
    show BoolsAt w (.slice (some a) len cap) len B
    by_cases h0 : len = 0
    · subst h0
      exact ⟨_, cap, 0, 0, rfl, hl, fun h => absurd h (by omega), fun i h => absurd h (by omega)⟩
    · obtain ⟨b, o, sp⟩ := a
      have hs : sp = none := by simpa [Addr.add] using World.cell?_spot (hx 0 (by omega))
      subst hs
      refine ⟨_, cap, b, o, rfl, hl, fun _ => rfl, fun i hi => ?_⟩
      have e := hx i (by omega)
      rw [Addr.add_lit] at e
      exact e
set_option maxRecDepth 20000 in
theorem open_keys {H : Type} {enc : TypeId × Value → H} {w : World} {r : Reach} {b0 : Nat} {v : Value} {d : DataW H} {p : List MemPlace} (hv : Value.okWide Try.prog w r b0 48 v)
    (h : DataW.Trod enc Try.prog w 0 (fun _ => true) true 48 v d p) : ∃ F : Lst, StrsIn w v F := by
  obtain ⟨b, len, cap, rfl⟩ := okWide_slice Try.underlying48 hv
  obtain ⟨fuel, hf⟩ := h
  rcases open_strs Try.underlying48 Try.underlying9 (by kernel_rfl) hf with ⟨e2, _⟩ | ⟨a, l, c, m, X, e2, _, hl, hm, hmm, _, hx⟩
  · simp [Value.cells] at e2
    obtain ⟨rfl, rfl, rfl⟩ := e2
    exact ⟨⟨0, fun _ => ⟨#[]⟩⟩, ⟨none, 0, 0, 0, rfl, Nat.le_refl _, fun (h : 0 < 0) => absurd h (by omega), fun i (h : i < 0) => absurd h (by omega)⟩, by show 0 ≤ _; omega, fun i (h : i < 0) => absurd h (by omega)⟩
  · simp [Value.cells] at e2
    obtain ⟨rfl, rfl, rfl⟩ := e2
    simp only [if_true] at hmm
    refine ⟨⟨len, X⟩, ?_, by show len ≤ _; unfold maxLen at hm; omega, fun i (hi : i < len) => by have := (hx i (by omega)).2; unfold maxLen at this; exact this⟩
    show StrsAt w (.slice (some a) len cap) len X
    by_cases h0 : len = 0
    · subst h0
      exact ⟨_, cap, 0, 0, rfl, hl, fun h => absurd h (by omega), fun i h => absurd h (by omega)⟩
    · obtain ⟨b, o, sp⟩ := a
      have hs : sp = none := by simpa [Addr.add] using World.cell?_spot (hx 0 (by omega)).1
      subst hs
      refine ⟨_, cap, b, o, rfl, hl, fun _ => rfl, fun i hi => ?_⟩
      have e := (hx i (by omega)).1
      rw [Addr.add_lit] at e
      exact e
end Go.Proofs.Ytbnjicbmainopaa
