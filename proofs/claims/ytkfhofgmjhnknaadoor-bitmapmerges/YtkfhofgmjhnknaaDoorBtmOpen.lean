
/-
  A map of layer 13 that comes in, and things that come in: what is known of them.
-/
import Derived.Test.YtkfhofgmjhnknaaDoorBtmMem
import Derived.ProofKit
import Derived.OpenShut
import Derived.Lib.SmallJoins
import Derived.Deep.Grids
import Derived.Deep.Strs
namespace Go.Proofs.YtkfhofgmjhnknaaDoor
open Go.RowKit Fm Bl Bm L2 Go.Deep Go.ChangeShapes Go.WideShapes Go.Joins
set_option linter.unusedVariables false

/-- Keys that can be read. -/
def StrsAt (w : World) (v : Value) (n : Nat) (L : Nat → ByteArray) : Prop :=
  ∃ A cap b o, v = .slice A n cap ∧ n ≤ cap ∧ (0 < n → A = some ⟨b, o, none⟩) ∧ ∀ i, i < n → w.cell? ⟨b, o + i, none⟩ = some (.string (L i))
theorem StrsAt.keep {w w' : World} {v : Value} {n : Nat} {L : Nat → ByteArray} (h : StrsAt w v n L) (k : Keep w w') : StrsAt w' v n L := by
  obtain ⟨A, cap, b, o, h1, h2, h3, h4⟩ := h
  exact ⟨A, cap, b, o, h1, h2, h3, fun i hi => k _ _ (h4 i hi)⟩
structure Lst where
  n : Nat
  L : Nat → ByteArray
def StrsIn (w : World) (v : Value) (F : Lst) : Prop := StrsAt w v F.n F.L ∧ F.n ≤ 9223372036854775807 ∧ ∀ i, i < F.n → (F.L i).size ≤ 9223372036854775807
set_option maxRecDepth 20000 in
theorem open_keys {H : Type} {enc : TypeId × Value → H} {w : World} {r : Reach} {b0 : Nat} {v : Value} {d : DataW H} {p : List MemPlace} (hv : Value.okWide Tryd.prog w r b0 47 v)
    (h : DataW.Trod enc Tryd.prog w 0 (fun _ => true) true 47 v d p) : ∃ F : Lst, StrsIn w v F := by
  obtain ⟨b, len, cap, rfl⟩ := okWide_slice Tryd.underlying47 hv
  obtain ⟨fuel, hf⟩ := h
  rcases open_strs Tryd.underlying47 Tryd.underlying9 (by kernel_rfl) hf with ⟨e2, _⟩ | ⟨a, l, c, m, X, e2, _, hl, hm, hmm, _, hx⟩
  · simp [Value.cells] at e2
    obtain ⟨rfl, rfl, rfl⟩ := e2
    exact ⟨⟨0, fun _ => ⟨#[]⟩⟩, ⟨none, 0, 0, 0, rfl, Nat.le_refl _, fun (h : 0 < 0) => absurd h (by omega), fun i (h : i < 0) => absurd h (by omega)⟩, by show 0 ≤ _; omega, fun i (h : i < 0) => absurd h (by omega)⟩
  · simp [Value.cells] at e2
    obtain ⟨rfl, rfl, rfl⟩ := e2
    simp only [if_true] at hmm
    refine ⟨⟨len, X⟩, ?_, by show len ≤ _; unfold maxLen at hm; omega, fun i (hi : i < len) => by have := (hx i (by omega)).2; unfold maxLen at this; exact this⟩
    show StrsAt w (.slice (some a) len cap) len X
    by_cases h0 : len = 0
    · subst h0
      exact ⟨_, cap, 0, 0, rfl, hl, fun h => absurd h (by omega), fun i h => absurd h (by omega)⟩
    · obtain ⟨b, o, sp⟩ := a
      have hs : sp = none := by simpa [Addr.add] using World.cell?_spot (hx 0 (by omega)).1
      subst hs
      refine ⟨_, cap, b, o, rfl, hl, fun _ => rfl, fun i hi => ?_⟩
      have e := (hx i (by omega)).1
      rw [Addr.add_lit] at e
      exact e
theorem bitsI_of_cells {w : World} {a : Option Addr} {L cap : Nat} {B : Nat → Bool} (hl : L ≤ cap) (hn : a = none → cap = 0) (hc : ∀ x, a = some x → ∀ c, c < cap → w.cell? (x.add c) = some (.bool (B c))) :
    BitsI w (.slice a L cap) L B := by
  cases a with
  | none =>
    have := hn rfl
    exact ⟨_, cap, 0, 0, rfl, hl, fun h => by omega, fun c h => by omega⟩
  | some x =>
    by_cases h0 : L = 0
    · subst h0
      exact ⟨_, cap, 0, 0, rfl, hl, fun h => by omega, fun c h => by omega⟩
    · obtain ⟨b, o, sp⟩ := x
      have hs : sp = none := by simpa [Addr.add] using World.cell?_spot (hc _ rfl 0 (by omega))
      subst hs
      refine ⟨_, cap, b, o, rfl, hl, fun _ => rfl, fun c h => ?_⟩
      rw [← add_plain]; exact hc _ rfl c (by omega)
theorem open_bss {H : Type} {enc : TypeId × Value → H} {P : Program} {w : World} {base : Nat} {held : Bool} {t e q : TypeId} {v : Value} {d : DataW H} {p : List MemPlace} (ht : P.underlying t = some (.slice e)) (he : P.underlying e = some (.slice q)) (hq : P.underlying q = some .bool) (ce : P.cellsOf e = 1) (cq : P.cellsOf q = 1) {fuel : Nat}
    (hf : DataW.trod enc P w base (fun _ => true) held fuel t [v] = some (d, p)) : ∃ R L Z, RowsB w v R L Z ∧ R ≤ 9223372036854775807 := by
  rcases open_bool_rows ht he hq ce cq hf with ⟨hcs, _⟩ | ⟨x, l, c, A, L, C, B, hcs, _, hl, hm, _, hrows⟩
  · simp only [List.cons.injEq, and_true] at hcs
    subst hcs
    exact ⟨0, fun _ => 0, fun _ _ => false, ⟨_, 0, 0, 0, fun _ => .slice none 0 0, rfl, Nat.le_refl _, fun h => by omega, fun r h => by omega⟩, by omega⟩
  · simp only [List.cons.injEq, and_true] at hcs
    subst hcs
    have hb : l ≤ 9223372036854775807 := by unfold maxLen at hm; omega
    by_cases h0 : l = 0
    · subst h0
      exact ⟨0, fun _ => 0, fun _ _ => false, ⟨_, c, 0, 0, fun _ => .slice none 0 0, rfl, Nat.zero_le _, fun h => by omega, fun r h => by omega⟩, by omega⟩
    · obtain ⟨b, o, sp⟩ := x
      have hs : sp = none := by simpa [Addr.add] using World.cell?_spot (hrows 0 (by omega)).1
      subst hs
      refine ⟨l, L, B, ⟨_, c, b, o, fun r => .slice (A r) (L r) (C r), rfl, hl, fun _ => rfl, fun r hr => ?_⟩, hb⟩
      obtain ⟨c1, l1, _, n1, k1⟩ := hrows r (by omega)
      exact ⟨by rw [← add_plain]; exact c1, bitsI_of_cells l1 n1 (fun x h c hc => (k1 x h).2 c hc)⟩
/-- What a map is. -/
structure Mpt where
  S : Int
  R : Nat
  L : Nat → Nat
  Z : Nat → Nat → Bool
def MpIn (w : World) (v : Value) (F : Mpt) : Prop := MpAt w v F.S F.R F.L F.Z ∧ U F.S ∧ F.R ≤ 9223372036854775807
theorem cells_mp : Tryd.prog.cellsOf 25 = 2 := by kernel_rfl
set_option maxRecDepth 20000 in
theorem open_mp {H : Type} {enc : TypeId × Value → H} {w : World} {r : Reach} {b0 : Nat} {v : Value} {d : DataW H} {p : List MemPlace} (hv : Value.okWide Tryd.prog w r b0 25 v)
    (h : DataW.Trod enc Tryd.prog w 0 (fun _ => true) true 25 v d p) : ∃ F : Mpt, MpIn w v F := by
  obtain ⟨c0, c1, y0, y1, m, rfl, rfl, rfl, h0, h1⟩ := open_agg2 Tryd.underlying25 (by kernel_rfl) cells_mp hv h
  obtain ⟨S, e0, _, w0⟩ := DataW.trod_int Tryd.underlying22 h0
  simp only [List.cons.injEq, and_true] at e0
  subst e0
  obtain ⟨R, L, Z, hr, hR⟩ := open_bss Tryd.underlying23 Tryd.underlying33 Tryd.underlying4 (by kernel_rfl) (by kernel_rfl) h1
  exact ⟨⟨S, R, L, Z⟩, ⟨_, rfl, hr⟩, bounds_u64 w0, hR⟩
end Go.Proofs.YtkfhofgmjhnknaaDoor
