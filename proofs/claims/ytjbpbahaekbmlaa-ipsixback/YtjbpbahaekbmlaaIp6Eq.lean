/-
  Headers that are alike are told to be so; headers that are short enough.
-/
import Derived.Test.YtjbpbahaekbmlaaIp6Ref
import Derived.Laws.StructEq
namespace Go.Proofs.Ytjbpbahaekbmlaa
open Go.RowKit Oc Ip6 Go.Deep
set_option linter.unusedVariables false

set_option maxHeartbeats 3200000 in
theorem equal_any (w : World) (x y : Value) (F : Hd) (hF : HdAt w x F) (hG : HdAt w y F) (hn : F.ch.length ≤ 9223372036854775807) : Calls Try.prog 11 #[x, y] w fun e w' => e = .returned (.bool true) ∧ Below w.heap.size w w' := by
  obtain ⟨c, b, h, p, s, d, C⟩ := F
  obtain ⟨v, rfl, hv⟩ := hF
  obtain ⟨u, rfl, hu⟩ := hG
  simp only at hn hv hu ⊢
  obtain ⟨A, cap, g, o, rfl, h2, h4⟩ := hv.read
  obtain ⟨A', cap', g', o', rfl, k2, k4⟩ := hu.read
  clear hv hu
  obtain ⟨n, hC⟩ : ∃ n, C.length = n := ⟨_, rfl⟩
  rw [hC] at h2 h4 k2 k4 hn ⊢
  have cell : Hid (∀ i, i < n → A = some ⟨g, o, none⟩ ∧ A' = some ⟨g', o', none⟩ ∧ ∃ (K : Int) (D : List UInt8), w.cell? ⟨g, o + i * 2, none⟩ = some (.int .i64 K) ∧ w.cell? ⟨g, o + i * 2 + 1, none⟩ = some (.string (bsL D)) ∧ w.cell? ⟨g', o' + i * 2, none⟩ = some (.int .i64 K) ∧ w.cell? ⟨g', o' + i * 2 + 1, none⟩ = some (.string (bsL D))) := fun i hi => by
    obtain ⟨a1, K, D, a2, a3, a4, a5⟩ := h4 i hi
    obtain ⟨b1, K', D', b2, b3, b4, b5⟩ := k4 i hi
    rw [a2] at b2
    cases b2
    exact ⟨a1, b1, K, D, a4, a5, b4, b5⟩
  clear h4 k4 hC
  have ST : Hid (Below w.heap.size w ((w.alloc (.cells #[.int .i64 c, .int .i64 b, .int .i64 h, .int .i64 p, .string (bsL s), .string (bsL d), .slice A n cap] 31)).alloc (.cells #[.int .i64 c, .int .i64 b, .int .i64 h, .int .i64 p, .string (bsL s), .string (bsL d), .slice A' n cap'] 31)) ∧ Blk ((w.alloc (.cells #[.int .i64 c, .int .i64 b, .int .i64 h, .int .i64 p, .string (bsL s), .string (bsL d), .slice A n cap] 31)).alloc (.cells #[.int .i64 c, .int .i64 b, .int .i64 h, .int .i64 p, .string (bsL s), .string (bsL d), .slice A' n cap'] 31)) w.heap.size 31 #[.int .i64 c, .int .i64 b, .int .i64 h, .int .i64 p, .string (bsL s), .string (bsL d), .slice A n cap] ∧ Blk ((w.alloc (.cells #[.int .i64 c, .int .i64 b, .int .i64 h, .int .i64 p, .string (bsL s), .string (bsL d), .slice A n cap] 31)).alloc (.cells #[.int .i64 c, .int .i64 b, .int .i64 h, .int .i64 p, .string (bsL s), .string (bsL d), .slice A' n cap'] 31)) (w.heap.size + 1) 31 #[.int .i64 c, .int .i64 b, .int .i64 h, .int .i64 p, .string (bsL s), .string (bsL d), .slice A' n cap']) := ⟨(bel_alloc _ _).alloc (by simp) _, (Blk.new _ _ _).alloc _, by
    have e := Blk.new (w.alloc (.cells #[.int .i64 c, .int .i64 b, .int .i64 h, .int .i64 p, .string (bsL s), .string (bsL d), .slice A n cap] 31)) 31 #[.int .i64 c, .int .i64 b, .int .i64 h, .int .i64 p, .string (bsL s), .string (bsL d), .slice A' n cap']
    simpa using e⟩
  go_enter Try.func11, Try.ntmps11
  go_wp2_with fail
  go_loopg [5] n (fun g i wr => ∃ k : Nat, (g = n - k ∧ k ≤ n ∧ Below w.heap.size w wr ∧ Blk wr w.heap.size 31 #[.int .i64 c, .int .i64 b, .int .i64 h, .int .i64 p, .string (bsL s), .string (bsL d), .slice A n cap] ∧ Blk wr (w.heap.size + 1) 31 #[.int .i64 c, .int .i64 b, .int .i64 h, .int .i64 p, .string (bsL s), .string (bsL d), .slice A' n cap']) ∧ i = .int .i64 (k : Int))
  case atStart => exact ⟨0, ⟨rfl, by omega, ST.out⟩, rfl⟩
  case round =>
    clear ST
    obtain ⟨k, ⟨hg, hk, hB, hL, hM⟩, rfl⟩ := hrel
    have HK : Hid (gk = n - k ∧ Below w.heap.size w wr ∧ Blk wr w.heap.size 31 #[.int .i64 c, .int .i64 b, .int .i64 h, .int .i64 p, .string (bsL s), .string (bsL d), .slice A n cap] ∧ Blk wr (w.heap.size + 1) 31 #[.int .i64 c, .int .i64 b, .int .i64 h, .int .i64 p, .string (bsL s), .string (bsL d), .slice A' n cap']) := ⟨hg, hB, hL, hM⟩
    have x6 : wr.cell? ⟨w.heap.size, 6, none⟩ = some (.slice A n cap) := hL.cell 6
    have y6 : wr.cell? ⟨w.heap.size + 1, 6, none⟩ = some (.slice A' n cap') := hM.cell 6
    clear hg hL hM
    by_cases hz : k < n
    · obtain ⟨rfl, rfl, K, D, e1, e2, e3, e4⟩ := cell.out k hz
      have f1 := (hB.cell (World.block_lt_of_cell? _ _ e1)).trans e1
      have f2 := (hB.cell (World.block_lt_of_cell? _ _ e2)).trans e2
      have f3 := (hB.cell (World.block_lt_of_cell? _ _ e3)).trans e3
      have f4 := (hB.cell (World.block_lt_of_cell? _ _ e4)).trans e4
      have bn : (k : Int) < n := by omega
      clear hB e1 e2 e3 e4
      go_wp2_with fail
      go_quiet (fail)
      go_wp2_with fail
      go_roundg (n - (k + 1))
      case measure => have := HK.out.1; omega
      case rel => exact ⟨k + 1, ⟨rfl, by omega, below_drewN HK.out.2.1 _, HK.out.2.2.1, HK.out.2.2.2⟩, by go_num⟩
    · clear hB
      go_wp2_with fail
      go_ret
      exact ⟨rfl, HK.out.2.1⟩
/-- A header that is short enough to be gone through. -/
def SmallP (F : Hd) : Prop := F.ch.length ≤ 20 ∧ F.src.length ≤ 100 ∧ F.dst.length ≤ 100 ∧ ∀ (i : Nat) (x : Ex), F.ch[i]? = some x → x.data.length ≤ 4096
set_option maxHeartbeats 3200000 in
theorem small_any (w : World) (x : Value) (F : Hd) (hF : HdAt w x F) (hn : F.ch.length ≤ 9223372036854775807) : Calls Try.prog 15 #[x] w (TellsB w (SmallP F)) := by
  obtain ⟨c, b, h, p, s, d, C⟩ := F
  obtain ⟨v, rfl, hv⟩ := hF
  simp only at hn hv ⊢
  obtain ⟨A, cap, g, o, rfl, h2, h4⟩ := hv.read
  clear hv
  obtain ⟨n, hC⟩ : ∃ n, C.length = n := ⟨_, rfl⟩
  rw [hC] at h2 h4 hn ⊢
  have HC : Hid (C.length = n) := hC
  have cell : Hid (∀ i, i < n → A = some ⟨g, o, none⟩ ∧ ∃ (K : Int) (D : List UInt8), C[i]? = some ⟨K, D⟩ ∧ g < w.heap.size ∧ w.cell? ⟨g, o + i * 2, none⟩ = some (.int .i64 K) ∧ w.cell? ⟨g, o + i * 2 + 1, none⟩ = some (.string (bsL D))) := h4
  clear h4 hC
  have B1 : Hid (Below w.heap.size w (w.alloc (.cells #[.int .i64 c, .int .i64 b, .int .i64 h, .int .i64 p, .string (bsL s), .string (bsL d), .slice A n cap] 31))) := bel_alloc _ _
  have NO : Hid (¬ SmallP ⟨c, b, h, p, s, d, C⟩ → TellsB w (SmallP ⟨c, b, h, p, s, d, C⟩) (.returned (.bool false)) (w.alloc (.cells #[.int .i64 c, .int .i64 b, .int .i64 h, .int .i64 p, .string (bsL s), .string (bsL d), .slice A n cap] 31))) := fun hn' => ⟨false, rfl, ⟨fun h => (by cases h), fun h => absurd h hn'⟩, B1.out⟩
  by_cases c1 : (20 : Int) < n
  · go_enter Try.func15, Try.ntmps15
    go_wp2_with fail
    go_ret
    exact NO.out fun h => by have := h.1; simp only at this; have := HC.out; omega
  by_cases c2 : (100 : Int) < s.length
  · go_enter Try.func15, Try.ntmps15
    go_wp2_with fail
    go_ret
    exact NO.out fun h => by have := h.2.1; simp only at this; omega
  by_cases c3 : (100 : Int) < d.length
  · go_enter Try.func15, Try.ntmps15
    go_wp2_with fail
    go_ret
    exact NO.out fun h => by have := h.2.2.1; simp only at this; omega
  clear NO
  have ST : Hid (Below w.heap.size w (w.alloc (.cells #[.int .i64 c, .int .i64 b, .int .i64 h, .int .i64 p, .string (bsL s), .string (bsL d), .slice A n cap] 31)) ∧ Blk (w.alloc (.cells #[.int .i64 c, .int .i64 b, .int .i64 h, .int .i64 p, .string (bsL s), .string (bsL d), .slice A n cap] 31)) w.heap.size 31 #[.int .i64 c, .int .i64 b, .int .i64 h, .int .i64 p, .string (bsL s), .string (bsL d), .slice A n cap]) := ⟨bel_alloc _ _, Blk.new _ _ _⟩
  go_enter Try.func15, Try.ntmps15
  go_wp2_with fail
  go_loopg [3] n (fun g i wr => ∃ k : Nat, (g = n - k ∧ k ≤ n ∧ (∀ (j : Nat) (x : Ex), j < k → C[j]? = some x → x.data.length ≤ 4096) ∧ Below w.heap.size w wr ∧ Blk wr w.heap.size 31 #[.int .i64 c, .int .i64 b, .int .i64 h, .int .i64 p, .string (bsL s), .string (bsL d), .slice A n cap]) ∧ i = .int .i64 (k : Int))
  case atStart => exact ⟨0, ⟨rfl, by omega, fun j x hj => by omega, ST.out⟩, rfl⟩
  case round =>
    clear ST
    obtain ⟨k, ⟨hg, hk, hR, hB, hL⟩, rfl⟩ := hrel
    have HK : Hid (gk = n - k ∧ (∀ (j : Nat) (x : Ex), j < k → C[j]? = some x → x.data.length ≤ 4096) ∧ Below w.heap.size w wr ∧ Blk wr w.heap.size 31 #[.int .i64 c, .int .i64 b, .int .i64 h, .int .i64 p, .string (bsL s), .string (bsL d), .slice A n cap]) := ⟨hg, hR, hB, hL⟩
    have x6 : wr.cell? ⟨w.heap.size, 6, none⟩ = some (.slice A n cap) := hL.cell 6
    clear hg hL hR
    by_cases hz : k < n
    · obtain ⟨rfl, K, D, hx, hb, e1, e2⟩ := cell.out k hz
      have f2 := (hB.cell (World.block_lt_of_cell? _ _ e2)).trans e2
      have bn : (k : Int) < n := by omega
      have HX : Hid (C[k]? = some ⟨K, D⟩) := hx
      clear hB e1 e2 hx
      by_cases h9 : (4096 : Int) < D.length
      · go_wp2_with fail
        go_ret
        exact ⟨false, rfl, ⟨fun h => (by cases h), fun h => by have := h.2.2.2 k _ HX.out; simp only at this; omega⟩, HK.out.2.2.1⟩
      · go_wp2_with fail
        go_roundg (n - (k + 1))
        case measure => have := HK.out.1; omega
        case rel =>
          refine ⟨k + 1, ⟨rfl, by omega, fun j x hj hx => ?_, HK.out.2.2⟩, by go_num⟩
          by_cases e : j = k
          · subst e
            rw [HX.out] at hx
            cases hx
            show D.length ≤ 4096
            omega
          · exact HK.out.2.1 j x (by omega) hx
    · clear hB
      go_wp2_with fail
      go_ret
      refine ⟨true, rfl, ⟨fun _ => ⟨by show C.length ≤ 20; have := HC.out; omega, by show s.length ≤ 100; omega, by show d.length ≤ 100; omega, fun i x hx => ?_⟩, fun _ => rfl⟩, HK.out.2.2.1⟩
      refine HK.out.2.1 i x ?_ hx
      rcases Nat.lt_or_ge i k with h1 | h1
      · exact h1
      · have := HC.out
        change C[i]? = some x at hx
        rw [List.getElem?_eq_none (by omega)] at hx; cases hx
end Go.Proofs.Ytjbpbahaekbmlaa
