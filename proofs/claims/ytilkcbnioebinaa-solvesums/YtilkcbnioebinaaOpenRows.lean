/-
  Slices of numbers, and slices of these, that come in: what is known of them.
-/
import Derived.Test.YtilkcbnioebinaaSolveMem
import Derived.ProofKit
import Derived.OpenShut
import Derived.Deep.Matrix
namespace Go.Proofs.Ytilkcbnioebinaa
open Go.RowKit Fm Go.Deep Go.ChangeShapes Go.WideShapes

theorem ints_of_cells {w : World} {a : Option Addr} {L cap : Nat} {zs : List Int} (hl : L ≤ cap) (hz : zs.length = cap) (hn : a = none → cap = 0) (hc : ∀ x, a = some x → ∀ c, c < cap → w.cell? (x.add c) = some (.int .u64 (zs.getD c 0))) (hw : ∀ n ∈ zs, (Lit.int .u64 n).wf = true) :
    IntsAt w (.slice a L cap) L (fun c => zs.getD c 0) := by
  cases a with
  | none =>
    have := hn rfl
    exact ⟨_, cap, 0, 0, rfl, hl, fun h => by omega, fun c h => by omega⟩
  | some x =>
    by_cases h0 : L = 0
    · subst h0
      exact ⟨_, cap, 0, 0, rfl, hl, fun h => by omega, fun c h => by omega⟩
    · obtain ⟨b, o, sp⟩ := x
      have hs : sp = none := by simpa [Addr.add] using World.cell?_spot (hc _ rfl 0 (by omega))
      subst hs
      refine ⟨_, cap, b, o, rfl, hl, fun _ => rfl, fun c h => ⟨?_, ?_⟩⟩
      · rw [← add_plain]; exact hc _ rfl c (by omega)
      · refine bounds_u64 (hw _ ?_)
        show zs.getD c 0 ∈ zs
        rw [List.getD, List.getElem?_eq_getElem (show c < zs.length by omega)]
        exact List.getElem_mem _

section
variable {H : Type} {enc : TypeId × Value → H} {P : Program} {w : World} {base : Nat} {held : Bool}
theorem open_u64s {t e : TypeId} {a : Option Addr} {len cap : Nat} {d : DataW H} {p : List MemPlace} (ht : P.underlying t = some (.slice e)) (he : P.underlying e = some (.int .u64)) (ce : P.cellsOf e = 1)
    (h : DataW.Trod enc P w base (fun _ => true) held t (.slice a len cap) d p) : ∃ z, IntsAt w (.slice a len cap) len z := by
  obtain ⟨fuel, hf⟩ := h
  rcases open_ints ht he ce hf with ⟨hcs, _⟩ | ⟨x, l, c, zs, hcs, _, hl, hm, hz, _, hcell, hwz⟩
  · simp [Value.cells] at hcs
    obtain ⟨rfl, rfl, rfl⟩ := hcs
    exact ⟨fun _ => 0, ints_of_cells (zs := []) (Nat.le_refl _) rfl (fun _ => rfl) (fun _ h => by cases h) (by simp)⟩
  · simp [Value.cells] at hcs
    obtain ⟨rfl, rfl, rfl⟩ := hcs
    simp only [if_true] at hz
    exact ⟨_, ints_of_cells hl hz (fun h => by cases h) (fun x h c hc => by cases h; exact hcell c (by omega)) hwz⟩
theorem open_u64ss {t e q : TypeId} {a : Option Addr} {len cap : Nat} {d : DataW H} {p : List MemPlace} (ht : P.underlying t = some (.slice e)) (he : P.underlying e = some (.slice q)) (hq : P.underlying q = some (.int .u64)) (ce : P.cellsOf e = 1) (cq : P.cellsOf q = 1)
    (h : DataW.Trod enc P w base (fun _ => true) held t (.slice a len cap) d p) : ∃ L Z, RowsAt w (.slice a len cap) len L Z := by
  obtain ⟨fuel, hf⟩ := h
  rcases open_int_rows ht he hq ce cq hf with ⟨hcs, _⟩ | ⟨x, l, c, A, L, C, Z, hcs, _, hl, hm, _, hrows⟩
  · simp [Value.cells] at hcs
    obtain ⟨rfl, rfl, rfl⟩ := hcs
    exact ⟨fun _ => 0, fun _ _ => 0, _, 0, 0, 0, fun _ => .slice none 0 0, rfl, Nat.le_refl _, fun h => by omega, fun r h => by omega⟩
  · simp [Value.cells] at hcs
    obtain ⟨rfl, rfl, rfl⟩ := hcs
    by_cases h0 : len = 0
    · subst h0
      exact ⟨fun _ => 0, fun _ _ => 0, _, cap, 0, 0, fun _ => .slice none 0 0, rfl, Nat.zero_le _, fun h => by omega, fun r h => by omega⟩
    · obtain ⟨b, o, sp⟩ := x
      have hs : sp = none := by simpa [Addr.add] using World.cell?_spot (hrows 0 (by omega)).1
      subst hs
      refine ⟨L, fun r c => (Z r).getD c 0, _, cap, b, o, fun r => .slice (A r) (L r) (C r), rfl, hl, fun _ => rfl, fun r hr => ?_⟩
      obtain ⟨c1, l1, _, z1, w1, n1, k1⟩ := hrows r (by omega)
      exact ⟨by rw [← add_plain]; exact c1, ints_of_cells l1 z1 n1 (fun x h c hc => (k1 x h).2 c hc) w1⟩
end

end Go.Proofs.Ytilkcbnioebinaa
