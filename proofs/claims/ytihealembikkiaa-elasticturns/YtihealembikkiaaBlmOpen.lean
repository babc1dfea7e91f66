
/-
  A filter that comes in, and keys that come in: what is known of them.
-/
import Derived.Test.YtihealembikkiaaBlmMem
import Derived.ProofKit
import Derived.OpenShut
import Derived.Lib.SmallJoins
import Derived.Deep.Grids
import Derived.Deep.Strs
namespace Go.Proofs.Ytihealembikkiaa.L10
open Go.RowKit Fm Bl L2 Go.Deep Go.ChangeShapes Go.WideShapes Go.Joins
set_option linter.unusedVariables false
set_option maxRecDepth 20000

/-- What a filter is. -/
structure Flt where
  S : Int
  H : Int
  n : Nat
  B : Nat → Bool
def FilterIn (w : World) (v : Value) (F : Flt) : Prop := FilterAt w v F.S F.H F.n F.B ∧ U F.S ∧ I F.H
/-- Keys that can be read. -/
def StrsAt (w : World) (v : Value) (n : Nat) (L : Nat → ByteArray) : Prop :=
  ∃ A cap b o, v = .slice A n cap ∧ n ≤ cap ∧ (0 < n → A = some ⟨b, o, none⟩) ∧ ∀ i, i < n → w.cell? ⟨b, o + i, none⟩ = some (.string (L i))
theorem StrsAt.keep {w w' : World} {v : Value} {n : Nat} {L : Nat → ByteArray} (h : StrsAt w v n L) (k : Keep w w') : StrsAt w' v n L := by
  obtain ⟨A, cap, b, o, h1, h2, h3, h4⟩ := h
  exact ⟨A, cap, b, o, h1, h2, h3, fun i hi => k _ _ (h4 i hi)⟩
structure Lst where
  n : Nat
  L : Nat → ByteArray
def StrsIn (w : World) (v : Value) (F : Lst) : Prop := StrsAt w v F.n F.L ∧ F.n ≤ 9223372036854775807 ∧ ∀ i, i < F.n → (F.L i).size ≤ 9223372036854775807
theorem cells_ft : Try.prog.cellsOf 26 = 3 := by kernel_rfl
theorem u64_U {n : Int} (h : (Lit.int .u64 n).wf = true) : U n := bounds_u64 h
theorem i64_I {n : Int} (h : (Lit.int .i64 n).wf = true) : I n := bounds_i64 h
set_option maxRecDepth 20000 in
theorem open_keys {H : Type} {enc : TypeId × Value → H} {w : World} {r : Reach} {b0 : Nat} {v : Value} {d : DataW H} {p : List MemPlace} (hv : Value.okWide Try.prog w r b0 61 v)
    (h : DataW.Trod enc Try.prog w 0 (fun _ => true) true 61 v d p) : ∃ F : Lst, StrsIn w v F := by
  obtain ⟨b, len, cap, rfl⟩ := okWide_slice Try.underlying61 hv
  obtain ⟨fuel, hf⟩ := h
  rcases open_strs Try.underlying61 Try.underlying9 (by kernel_rfl) hf with ⟨e2, _⟩ | ⟨a, l, c, m, X, e2, _, hl, hm, hmm, _, hx⟩
  · simp [Value.cells] at e2
    obtain ⟨rfl, rfl, rfl⟩ := e2
    exact ⟨⟨0, fun _ => ⟨#[]⟩⟩, ⟨none, 0, 0, 0, rfl, Nat.le_refl _, fun (h : 0 < 0) => absurd h (by omega), fun i (h : i < 0) => absurd h (by omega)⟩, by show 0 ≤ _; omega, fun i (h : i < 0) => absurd h (by omega)⟩
  · simp [Value.cells] at e2
    obtain ⟨rfl, rfl, rfl⟩ := e2
    simp only [if_true] at hmm
    refine ⟨⟨len, X⟩, ?_, by show len ≤ _; unfold maxLen at hm; omega, fun i (hi : i < len) => by have := (hx i (by omega)).2; unfold maxLen at this; exact this⟩
    show StrsAt w (.slice (some a) len cap) len X
    by_cases h0 : len = 0
    · subst h0
      exact ⟨_, cap, 0, 0, rfl, hl, fun h => absurd h (by omega), fun i h => absurd h (by omega)⟩
    · obtain ⟨b, o, sp⟩ := a
      have hs : sp = none := by simpa [Addr.add] using World.cell?_spot (hx 0 (by omega)).1
      subst hs
      refine ⟨_, cap, b, o, rfl, hl, fun _ => rfl, fun i hi => ?_⟩
      have e := (hx i (by omega)).1
      rw [Addr.add_lit] at e
      exact e
end Go.Proofs.Ytihealembikkiaa.L10
