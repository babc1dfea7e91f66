/-
  Frames that are alike are told to be so.
-/
import Derived.Test.YtodjjjggjinliaaEthRef
import Derived.Laws.StructEq
namespace Go.Proofs.Ytodjjjggjinliaa
open Go.RowKit Oc Et Go.Deep
set_option linter.unusedVariables false

theorem two_first {w wr : World} {c c' : Array Value} {t t' : TypeId} (h : Below (w.heap.size + 2) ((w.alloc (.cells c t)).alloc (.cells c' t')) wr) (i : Nat) : wr.cell? ⟨w.heap.size, i, none⟩ = c[i]? := by
  rw [h.cell (by show w.heap.size < _; omega), World.cell?_alloc_lt _ _ _ (by simp), World.cell?_alloc_new]
theorem two_next {w wr : World} {c c' : Array Value} {t t' : TypeId} (h : Below (w.heap.size + 2) ((w.alloc (.cells c t)).alloc (.cells c' t')) wr) (i : Nat) : wr.cell? ⟨w.heap.size + 1, i, none⟩ = c'[i]? := by
  rw [h.cell (by show w.heap.size + 1 < _; omega)]
  have e := World.cell?_alloc_new (w := w.alloc (.cells c t)) c' t' i
  rwa [World.size_alloc] at e
theorem two_since {w wr : World} {a b : Obj} (h : Below (w.heap.size + 2) ((w.alloc a).alloc b) wr) : Below w.heap.size w wr :=
  (((Below.refl _ _).alloc (Nat.le_refl _) a).alloc (by simp) b).trans (h.mono (by omega))
set_option maxHeartbeats 3200000 in
theorem equal_any (w : World) (x y : Value) (F : Fr) (h : FrameAt w x F) (k : FrameAt w y F) (hn : F.n ≤ 1000000) : Calls Try.prog 11 #[x, y] w fun e w' => e = .returned (.bool true) ∧ Below w.heap.size w w' := by
  obtain ⟨d, s, n, K, V, T⟩ := F
  obtain ⟨v, rfl, A, cap, b, o, rfl, h2, h3, h4⟩ := h
  obtain ⟨v', rfl, A', cap', b', o', rfl, k2, k3, k4⟩ := k
  simp only at hn h2 h3 h4 k2 k3 k4 ⊢
  have cell : Hid (∀ i, i < n → A = some ⟨b, o, none⟩ ∧ A' = some ⟨b', o', none⟩ ∧ w.cell? ⟨b, o + i * 2, none⟩ = some (.int .i64 (K i)) ∧ w.cell? ⟨b, o + i * 2 + 1, none⟩ = some (.int .i64 (V i)) ∧ w.cell? ⟨b', o' + i * 2, none⟩ = some (.int .i64 (K i)) ∧ w.cell? ⟨b', o' + i * 2 + 1, none⟩ = some (.int .i64 (V i))) := fun i hi => ⟨h3 (by omega), k3 (by omega), (h4 i hi).1, (h4 i hi).2, (k4 i hi).1, (k4 i hi).2⟩
  clear h3 h4 k3 k4
  go_enter Try.func11, Try.ntmps11
  go_wp2_with fail
  go_loopg [5] n (fun g i wr => ∃ k : Nat, (g = n - k ∧ k ≤ n ∧ Below (w.heap.size + 2) ((w.alloc (.cells #[.string (bsL d), .string (bsL s), .slice A n cap, .int .i64 T] 31)).alloc (.cells #[.string (bsL d), .string (bsL s), .slice A' n cap', .int .i64 T] 31)) wr) ∧ i = .int .i64 (k : Int))
  case atStart => exact ⟨0, ⟨rfl, by omega, Below.refl _ _⟩, rfl⟩
  case round =>
    obtain ⟨k, ⟨hg, hk, hB⟩, rfl⟩ := hrel
    have HK : Hid (gk = n - k ∧ Below (w.heap.size + 2) ((w.alloc (.cells #[.string (bsL d), .string (bsL s), .slice A n cap, .int .i64 T] 31)).alloc (.cells #[.string (bsL d), .string (bsL s), .slice A' n cap', .int .i64 T] 31)) wr) := ⟨hg, hB⟩
    have b2 : wr.cell? ⟨w.heap.size, 2, none⟩ = some (.slice A n cap) := two_first hB 2
    have c2 : wr.cell? ⟨w.heap.size + 1, 2, none⟩ = some (.slice A' n cap') := two_next hB 2
    clear hg
    by_cases hz : k < n
    · obtain ⟨rfl, rfl, e1, e2, e3, e4⟩ := cell.out k hz
      have hS := two_since hB
      have f1 := (hS.cell (World.block_lt_of_cell? _ _ e1)).trans e1
      have f2 := (hS.cell (World.block_lt_of_cell? _ _ e2)).trans e2
      have f3 := (hS.cell (World.block_lt_of_cell? _ _ e3)).trans e3
      have f4 := (hS.cell (World.block_lt_of_cell? _ _ e4)).trans e4
      have bn : (k : Int) < n := by omega
      clear hB hS e1 e2 e3 e4
      go_wp2_with fail
      go_quiet (fail)
      go_wp2_with fail
      go_roundg (n - (k + 1))
      case measure => have := HK.out.1; omega
      case rel => exact ⟨k + 1, ⟨rfl, by omega, below_drewN HK.out.2 _⟩, by go_num⟩
    · clear hB
      go_wp2_with fail
      go_ret
      exact ⟨rfl, two_since HK.out.2⟩
end Go.Proofs.Ytodjjjggjinliaa
