
/-
  A sketch that comes in, and items that come in: what is known of them.
-/
import Derived.Test.YtihealembikkiaaLstMem
import Derived.ProofKit
import Derived.OpenShut
import Derived.Lib.SmallJoins
import Derived.Deep.Grids
import Derived.Deep.Matrix
import Derived.Deep.SlicePairs
namespace Go.Proofs.Ytihealembikkiaa
open Go.RowKit Fm Bl Lt L2 Go.Deep Go.ChangeShapes Go.WideShapes Go.Joins
set_option linter.unusedVariables false
set_option maxRecDepth 20000

/-- What a sketch is. -/
structure Skt where
  S : Int
  M : Int
  R : Nat
  L : Nat → Nat
  Z : Nat → Nat → Int
def SketchIn (w : World) (v : Value) (F : Skt) : Prop := SkAt w v F.S F.M F.R F.L F.Z ∧ U F.S ∧ I F.M ∧ F.R ≤ 9223372036854775807
theorem intsI_of_cells {w : World} {a : Option Addr} {L cap : Nat} {zs : List Int} (hl : L ≤ cap) (hz : zs.length = cap) (hn : a = none → cap = 0) (hc : ∀ x, a = some x → ∀ c, c < cap → w.cell? (x.add c) = some (.int .i64 (zs.getD c 0))) :
    IntsI w (.slice a L cap) L (fun c => zs.getD c 0) := by
  cases a with
  | none =>
    have := hn rfl
    exact ⟨_, cap, 0, 0, rfl, hl, fun h => by omega, fun c h => by omega⟩
  | some x =>
    by_cases h0 : L = 0
    · subst h0
      exact ⟨_, cap, 0, 0, rfl, hl, fun h => by omega, fun c h => by omega⟩
    · obtain ⟨b, o, sp⟩ := x
      have hs : sp = none := by simpa [Addr.add] using World.cell?_spot (hc _ rfl 0 (by omega))
      subst hs
      refine ⟨_, cap, b, o, rfl, hl, fun _ => rfl, fun c h => ?_⟩
      rw [← add_plain]; exact hc _ rfl c (by omega)
theorem open_i64ss {H : Type} {enc : TypeId × Value → H} {P : Program} {w : World} {base : Nat} {held : Bool} {t e q : TypeId} {v : Value} {d : DataW H} {p : List MemPlace} (ht : P.underlying t = some (.slice e)) (he : P.underlying e = some (.slice q)) (hq : P.underlying q = some (.int .i64)) (ce : P.cellsOf e = 1) (cq : P.cellsOf q = 1) {fuel : Nat}
    (hf : DataW.trod enc P w base (fun _ => true) held fuel t [v] = some (d, p)) : ∃ R L Z, RowsI w v R L Z ∧ R ≤ 9223372036854775807 := by
  rcases open_int_rows ht he hq ce cq hf with ⟨hcs, _⟩ | ⟨x, l, c, A, L, C, Z, hcs, _, hl, hm, _, hrows⟩
  · simp only [List.cons.injEq, and_true] at hcs
    subst hcs
    exact ⟨0, fun _ => 0, fun _ _ => 0, ⟨_, 0, 0, 0, fun _ => .slice none 0 0, rfl, Nat.le_refl _, fun h => by omega, fun r h => by omega⟩, by omega⟩
  · simp only [List.cons.injEq, and_true] at hcs
    subst hcs
    have hb : l ≤ 9223372036854775807 := by unfold maxLen at hm; omega
    by_cases h0 : l = 0
    · subst h0
      exact ⟨0, fun _ => 0, fun _ _ => 0, ⟨_, c, 0, 0, fun _ => .slice none 0 0, rfl, Nat.zero_le _, fun h => by omega, fun r h => by omega⟩, by omega⟩
    · obtain ⟨b, o, sp⟩ := x
      have hs : sp = none := by simpa [Addr.add] using World.cell?_spot (hrows 0 (by omega)).1
      subst hs
      refine ⟨l, L, fun r c => (Z r).getD c 0, ⟨_, c, b, o, fun r => .slice (A r) (L r) (C r), rfl, hl, fun _ => rfl, fun r hr => ?_⟩, hb⟩
      obtain ⟨c1, l1, _, z1, w1, n1, k1⟩ := hrows r (by omega)
      exact ⟨by rw [← add_plain]; exact c1, intsI_of_cells l1 z1 n1 (fun x h c hc => (k1 x h).2 c hc)⟩
theorem cells_ft : Try.prog.cellsOf 26 = 3 := by kernel_rfl
set_option maxRecDepth 20000 in
theorem open_sketch {H : Type} {enc : TypeId × Value → H} {w : World} {r : Reach} {b0 : Nat} {v : Value} {d : DataW H} {p : List MemPlace} (hv : Value.okWide Try.prog w r b0 26 v)
    (h : DataW.Trod enc Try.prog w 0 (fun _ => true) true 26 v d p) : ∃ F : Skt, SketchIn w v F := by
  obtain ⟨c0, c1, c2, y0, y1, y2, m, rfl, rfl, rfl, h0, h1, h2⟩ := open_agg3 Try.underlying26 (by kernel_rfl) cells_ft hv h
  obtain ⟨S, e0, _, w0⟩ := DataW.trod_int Try.underlying22 h0
  obtain ⟨K, e1, _, w1⟩ := DataW.trod_int Try.underlying3 h1
  simp only [List.cons.injEq, and_true] at e0 e1
  subst e0 e1
  obtain ⟨R, L, Z, hr, hR⟩ := open_i64ss Try.underlying24 Try.underlying57 Try.underlying3 (by kernel_rfl) (by kernel_rfl) h2
  exact ⟨⟨S, K, R, L, Z⟩, ⟨_, rfl, hr⟩, bounds_u64 w0, bounds_i64 w1, hR⟩
/-- Items that can be read: a key and a number each. -/
def ItAt (w : World) (v : Value) (n : Nat) (K : Nat → ByteArray) (q : Nat → Int) : Prop :=
  ∃ A cap b o, v = .slice A n cap ∧ n ≤ cap ∧ (0 < n → A = some ⟨b, o, none⟩) ∧ ∀ i, i < n → w.cell? ⟨b, o + i * 2, none⟩ = some (.string (K i)) ∧ w.cell? ⟨b, o + i * 2 + 1, none⟩ = some (.int .i64 (q i))
theorem ItAt.keep {w w' : World} {v : Value} {n : Nat} {K : Nat → ByteArray} {q : Nat → Int} (h : ItAt w v n K q) (k : Keep w w') : ItAt w' v n K q := by
  obtain ⟨A, cap, b, o, h1, h2, h3, h4⟩ := h
  exact ⟨A, cap, b, o, h1, h2, h3, fun i hi => ⟨k _ _ (h4 i hi).1, k _ _ (h4 i hi).2⟩⟩
structure Its where
  n : Nat
  K : Nat → ByteArray
  q : Nat → Int
def ItemsIn (w : World) (v : Value) (F : Its) : Prop := ItAt w v F.n F.K F.q ∧ F.n ≤ 9223372036854775807 ∧ ∀ i, i < F.n → (F.K i).size ≤ 9223372036854775807 ∧ I (F.q i)
theorem cells_it : Try.prog.cellsOf 68 = 2 := by kernel_rfl
set_option maxRecDepth 20000 in
theorem open_items {H : Type} {enc : TypeId × Value → H} {w : World} {r : Reach} {b0 : Nat} {v : Value} {d : DataW H} {p : List MemPlace} (hv : Value.okWide Try.prog w r b0 41 v)
    (h : DataW.Trod enc Try.prog w 0 (fun _ => true) true 41 v d p) : ∃ F : Its, ItemsIn w v F := by
  obtain ⟨b, len, cap, rfl⟩ := okWide_slice Try.underlying41 hv
  obtain ⟨fuel, hf⟩ := h
  rcases open_slice_pairs Try.underlying41 Try.underlying68 cells_it rfl rfl (by kernel_rfl) (by kernel_rfl) hf with ⟨e2, _⟩ | ⟨a, l, c, mm, n, V0, V1, D0, D1, P0, P1, e2, _, hl, hm, hmm, hy, hx⟩
  · simp [Value.cells] at e2
    obtain ⟨rfl, rfl, rfl⟩ := e2
    exact ⟨⟨0, fun _ => ⟨#[]⟩, fun _ => 0⟩, ⟨none, 0, 0, 0, rfl, Nat.le_refl _, fun (h : 0 < 0) => absurd h (by omega), fun i (h : i < 0) => absurd h (by omega)⟩, by show 0 ≤ _; omega, fun i (h : i < 0) => absurd h (by omega)⟩
  · simp [Value.cells] at e2
    obtain ⟨rfl, rfl, rfl⟩ := e2
    simp only [if_true] at hmm
    have kinds : ∀ i, i < len → ∃ (s : ByteArray) (x : Int), V0 i = .string s ∧ V1 i = .int .i64 x ∧ s.size ≤ 9223372036854775807 ∧ I x := fun i hi => by
      obtain ⟨_, _, g0, g1⟩ := hx i (by omega)
      obtain ⟨s, es, _, hs⟩ := DataW.trod_string Try.underlying9 g0
      obtain ⟨x, ex, _, wx⟩ := DataW.trod_int Try.underlying3 g1
      simp only [List.cons.injEq, and_true] at ex es
      exact ⟨s, x, es, ex, by unfold maxLen at hs; exact hs, bounds_i64 wx⟩
    refine ⟨⟨len, fun i => match V0 i with | .string s => s | _ => ⟨#[]⟩, fun i => intOf (V1 i)⟩, ?_, by show len ≤ _; unfold maxLen at hm; omega, fun i (hi : i < len) => ?_⟩
    · show ItAt w (.slice (some a) len cap) len _ _
      by_cases h0 : len = 0
      · subst h0
        exact ⟨_, cap, 0, 0, rfl, hl, fun h => by omega, fun i h => by omega⟩
      · obtain ⟨b, o, sp⟩ := a
        have hs : sp = none := by simpa [Addr.add] using World.cell?_spot (hx 0 (by omega)).1
        subst hs
        refine ⟨_, cap, b, o, rfl, hl, fun _ => rfl, fun i hi => ?_⟩
        obtain ⟨c1, c2, _, _⟩ := hx i (by omega)
        obtain ⟨s, x, es, ex, _, _⟩ := kinds i hi
        rw [add_plain] at c1 c2
        simp only [es, ex] at c1 c2 ⊢
        exact ⟨c1, c2⟩
    · obtain ⟨s, x, es, ex, h1, h2⟩ := kinds i hi
      simp only [es, ex]
      exact ⟨h1, h2⟩
end Go.Proofs.Ytihealembikkiaa
