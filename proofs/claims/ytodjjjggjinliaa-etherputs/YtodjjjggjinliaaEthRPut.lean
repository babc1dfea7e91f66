/-
  The reference's Put: what it answers of a right frame.
-/
import Derived.Test.YtodjjjggjinliaaEthPut
namespace Go.Proofs.Ytodjjjggjinliaa
open Go.RowKit Oc Et Go.Deep
set_option linter.unusedVariables false

theorem rput_step {d s S : List UInt8} {n k KN VN : Nat} {K V : Nat → Int} {T : Int} (h : S = d ++ s ++ tagsL ⟨d, s, n, K, V, T⟩ k) (hE : K k = KN ∧ V k = VN) : S ++ (bytesL KN 2 ++ bytesL VN 2) = d ++ s ++ tagsL ⟨d, s, n, K, V, T⟩ (k + 1) := by
  rw [tagsL, h]
  simp only [hE.1, hE.2, Int.toNat_natCast]
  simp
set_option maxHeartbeats 1600000 in
theorem rput_ok (w : World) (x : Value) (F : Fr) (h : FrameAt w x F) (hR : RightP F) : Calls Try.prog 16 #[x] w fun e w' => e = .returned (.string (bsL (headL F))) ∧ Below w.heap.size w w' := by
  obtain ⟨d, s, n, K, V, T⟩ := F
  have tT := isN_iff.1 hR.2.2.2.2.1
  simp only at tT
  obtain ⟨TN, rfl⟩ : ∃ TN : Nat, T = TN := ⟨T.toNat, by omega⟩
  have hT2 : TN < 65536 := by omega
  clear tT
  obtain ⟨v, rfl, A, cap, b, o, rfl, h2, h3, h4⟩ := h
  simp only at h2 h3 h4
  have n2 : n ≤ 2 := hR.2.2.1
  have ld : d.length = 6 := hR.1
  have ls : s.length = 6 := hR.2.1
  have HL : Hid (d.length = 6 ∧ s.length = 6) := ⟨ld, ls⟩
  have cell : Hid (∀ i, i < n → A = some ⟨b, o, none⟩ ∧ ∃ KN VN : Nat, K i = KN ∧ V i = VN ∧ KN < 65536 ∧ VN < 65536 ∧ w.cell? ⟨b, o + i * 2, none⟩ = some (.int .i64 (KN : Int)) ∧ w.cell? ⟨b, o + i * 2 + 1, none⟩ = some (.int .i64 (VN : Int))) := fun i hi => by
    obtain ⟨c1, c2⟩ := h4 i hi
    have k1 := isK_two (hR.2.2.2.1 i hi).1
    have k2 := isN_iff.1 (hR.2.2.2.1 i hi).2
    simp only at k1 k2
    exact ⟨h3 (by omega), (K i).toNat, (V i).toNat, by omega, by omega, by omega, by omega, by rw [c1]; congr 2; omega, by rw [c2]; congr 2; omega⟩
  clear h3 h4 hR ld ls
  have dl : d.length ≤ 6 := by have := HL.out.1; omega
  have sl : s.length ≤ 6 := by have := HL.out.2; omega
  go_enter Try.func16, Try.ntmps16
  go_wp2_with fail
  go_loopg [3, 4] n (fun g t i wr => ∃ (k : Nat) (S : List UInt8), (g = n - k ∧ k ≤ n ∧ S = d ++ s ++ tagsL ⟨d, s, n, K, V, TN⟩ k ∧ Below (w.heap.size + 1) (w.alloc (.cells #[.string (bsL d), .string (bsL s), .slice A n cap, .int .i64 (TN : Int)] 31)) wr) ∧ t = .string (bsL S) ∧ i = .int .i64 (k : Int))
  case atStart => exact ⟨0, d ++ s, ⟨rfl, by omega, by simp [tagsL], Below.refl _ _⟩, rfl, rfl⟩
  case round =>
    obtain ⟨k, S, ⟨hg, hk, hS, hB⟩, rfl, rfl⟩ := hrel
    have HK : Hid (gk = n - k ∧ S = d ++ s ++ tagsL ⟨d, s, n, K, V, TN⟩ k ∧ Below (w.heap.size + 1) (w.alloc (.cells #[.string (bsL d), .string (bsL s), .slice A n cap, .int .i64 (TN : Int)] 31)) wr) := ⟨hg, hS, hB⟩
    have Sl : S.length ≤ 20 := by rw [hS, List.length_append, List.length_append, tagsL_len]; omega
    have b2 : wr.cell? ⟨w.heap.size, 2, none⟩ = some (.slice A n cap) := below_new hB 2
    have b3 : wr.cell? ⟨w.heap.size, 3, none⟩ = some (.int .i64 (TN : Int)) := below_new hB 3
    clear hg hS
    by_cases hz : k < n
    · obtain ⟨rfl, KN, VN, eK, eV, lK, lV, e1, e2⟩ := cell.out k hz
      have EE : Hid (K k = KN ∧ V k = VN) := ⟨eK, eV⟩
      have t1 := below_old hB e1
      have t2 := below_old hB e2
      have bn : (k : Int) < n := by omega
      have bK := bytesL_len KN 2
      have bV := bytesL_len VN 2
      have F2 : Hid (wr.cell? ⟨w.heap.size, 2, none⟩ = some (.slice (some ⟨b, o, none⟩) n cap) ∧ wr.cell? ⟨b, o + k * 2 + 1, none⟩ = some (.int .i64 (VN : Int))) := ⟨b2, t2⟩
      have HB : Hid (Below (w.heap.size + 1) (w.alloc (.cells #[.string (bsL d), .string (bsL s), .slice (some ⟨b, o, none⟩) n cap, .int .i64 (TN : Int)] 31)) wr) := hB
      have hsz : w.heap.size + 1 ≤ wr.heap.size := by have := hB.size; simpa using this
      clear hB e1 e2 eK eV
      have g1 : ¬ 9223372036854775807 < S.length + 2 := by omega
      have g2 : ¬ 9223372036854775807 < S.length + 2 + 2 := by omega
      have g3 : ¬ 9223372036854775807 < S.length + (2 + 2) := by omega
      have g4 : ¬ 9223372036854775807 < S.length + 4 := by omega
      go_wp2_with fail
      go_region_law (first
        | (go_simp; have O1' := O1; clear O1'; go_at_call 26; refine (bytes_any VN _ lV).mono ?_; rintro e q2 ⟨rfl, c2⟩; have O2 : Hid (Below wr.heap.size wr q2) := bel_trans O1.out ⟨c2.os, c2.tape, c2.output, c2.size, c2.block⟩; clear c2)
        | (go_simp; go_at_call 26; refine (bytes_any KN _ lK).mono ?_; rintro e q1 ⟨rfl, c1⟩; have O1 : Hid (Below wr.heap.size wr q1) := ⟨c1.os, c1.tape, c1.output, c1.size, c1.block⟩; have m1 := keep_of_below O1.out _ _ F2.out.1; have m2 := keep_of_below O1.out _ _ F2.out.2; clear c1))
      all_goals go_wp2_with fail
      all_goals go_roundg (n - (k + 1))
      all_goals first | (have := HK.out.1; omega) | exact ⟨k + 1, _, ⟨rfl, by omega, rput_step HK.out.2.1 EE.out, HB.out.trans (O2.out.mono hsz)⟩, rfl, by go_num⟩
    · have e : k = n := by omega
      subst e
      have bT := bytesL_len TN 2
      clear hB
      go_wp2_with fail
      refine (bytes_any TN _ hT2).mono ?_
      rintro e q1 ⟨rfl, c1⟩
      go_wp2_with fail
      go_ret
      refine ⟨?_, bel_trans (below_since HK.out.2.2) c1⟩
      show Ending.returned (.string (bsL (S ++ bytesL TN 2))) = _
      rw [HK.out.2.1]
      rfl
end Go.Proofs.Ytodjjjggjinliaa
