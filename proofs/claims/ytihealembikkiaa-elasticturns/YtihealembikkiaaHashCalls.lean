
/-
  What each function of layer 2 answers: the plain functions of YtihealembikkiaaHashNum; no call touches the memory.
-/
import Derived.Test.YtihealembikkiaaPows
import Derived.Test.YtihealembikkiaaHashNum
import Derived.Laws.Strings
import Derived.Laws.Strings2
namespace Go.Proofs.Ytihealembikkiaa.L2
open Go.RowKit Fm

theorem or_byte (W b : Nat) (hW : W < 16777216) (hb : b < 256) : bits BinOp.or IntKind.u64 ((W : Int) * 256) (b : Int) = ((W * 256 + b : Nat) : Int) := by
  have o := bits_or_u64_nat (2 ^ 8 * W) b (by omega) (by omega)
  rw [← Nat.two_pow_add_eq_or_of_lt (i := 8) (by omega)] at o
  rw [show ((W : Int) * 256) = ((2 ^ 8 * W : Nat) : Int) by omega, o]
  omega
theorem byteN_in (s : ByteArray) (i : Nat) (h : i < s.size) : byteN s i = (s[i]'h).toNat := by unfold byteN; rw [dif_pos h]
theorem byteN_out (s : ByteArray) (i : Nat) (h : ¬ i < s.size) : byteN s i = 0 := by unfold byteN; rw [dif_neg h]

set_option maxHeartbeats 1000000 in
theorem word_any (s : ByteArray) (st : Nat) (w : World) (hs : s.size ≤ 1152921504606846976) (hst : st < s.size) :
    Calls Try.prog 105 #[.string s, .int .i64 (st : Int)] w fun e w' => e = .returned (.int .u64 (wordF s st)) ∧ w' = w := by
  go_enter Try.func105, Try.ntmps105
  go_wp2
  go_loop [5, 6] (fun x y => ∃ j : Nat, j ≤ 4 ∧ x = .int .u64 ((wpart s st j : Nat) : Int) ∧ y = .int .i64 ((st + j : Nat) : Int)) (fun _ y => (st + 4 - (intOf y)).toNat)
  case atStart => exact ⟨0, by omega, rfl, rfl⟩
  case round =>
    obtain ⟨j, hj, rfl, rfl⟩ := hrel
    by_cases hz : j < 4
    · have hW : wpart s st j < 16777216 := by
        have := wpart_lt s st j
        have h2 : 256 ^ j ≤ 256 ^ 3 := Nat.pow_le_pow_right (by omega) (by omega)
        omega
      have hb := byteN_lt s (st + j)
      by_cases hin : st + j < s.size
      · have E := or_byte (wpart s st j) (byteN s (st + j)) hW hb
        rw [byteN_in s (st + j) hin] at E
        have B := byteN_in s (st + j) hin
        go_wp2
        go_round
        case rel => exact ⟨j + 1, by omega, by rw [wpart, B]; exact congrArg (Value.int IntKind.u64) (by omega), by go_num⟩
        case measure => simp [intOf]; omega
      · have B := byteN_out s (st + j) hin
        go_wp2
        go_round
        case rel =>
          refine ⟨j + 1, by omega, ?_, by go_num⟩
          rw [wpart, B]
          exact congrArg (Value.int IntKind.u64) (by omega)
        case measure => simp [intOf]; omega
    · have HJ : Hid (j = 4) := (by omega : j = 4)
      go_wp2
      go_ret
      exact ⟨ret_int (by rw [HJ.out]; rfl), rfl⟩

set_option maxHeartbeats 1000000 in
theorem sum_any (a : Int) (s : ByteArray) (w : World) (ha : U a) (hs : s.size ≤ 1152921504606846976) :
    Calls Try.prog 99 #[.int .u64 a, .string s] w fun e w' => e = .returned (.int .u64 (sumF a s)) ∧ w' = w := by
  have n0 := oF_nn (s.size : Int)
  have n1 := oF_lt (s.size : Int)
  have f0 := addF_U a 2
  go_enter Try.func99, Try.ntmps99
  go_wp2_with fail
  refine (add_any _ _ _ ha ⟨by omega, by omega⟩).mono ?_
  rintro e w' ⟨rfl, rfl⟩
  go_wp2_with fail
  refine (of_any _ _ ⟨by omega, by omega⟩).mono ?_
  rintro e w' ⟨rfl, rfl⟩
  go_wp2_with fail
  go_loop [6, 7] (fun x y => ∃ (k T : Nat) (R : Int), (k ≤ wordsN s ∧ T = 4 * k ∧ R = runF (addF a 2) s (oF s.size) k) ∧ x = .int .u64 R ∧ y = .int .i64 (T : Int)) (fun _ y => (s.size + 4 - (intOf y)).toNat)
  case atStart => exact ⟨0, 0, _, ⟨by omega, rfl, rfl⟩, rfl, rfl⟩
  case round =>
    obtain ⟨k, T, R, hk, rfl, rfl⟩ := hrel
    have r0 : 0 ≤ R := by rw [hk.2.2]; exact (runF_lt (addF a 2) s (oF s.size) n0 n1 k).1
    have r1 : R < 2305843009213693951 := by rw [hk.2.2]; exact (runF_lt (addF a 2) s (oF s.size) n0 n1 k).2
    have HK : Hid (k ≤ wordsN s ∧ T = 4 * k ∧ R = runF (addF a 2) s (oF s.size) k) := hk
    clear hk n0 n1
    by_cases hz : T < s.size
    · have W0 := wordF_nn s T
      have W1 := wordF_lt s T
      go_wp2_with fail
      refine (mul_any _ _ _ ⟨r0, by omega⟩ f0).mono ?_
      rintro e w' ⟨rfl, rfl⟩
      go_wp2_with fail
      refine (word_any s T _ hs hz).mono ?_
      rintro e w' ⟨rfl, rfl⟩
      go_wp2_with fail
      refine (add_any _ _ _ (mulF_U _ _) ⟨by omega, by omega⟩).mono ?_
      rintro e w' ⟨rfl, rfl⟩
      go_wp2_with fail
      go_round
      case rel =>
        obtain ⟨h1, rfl, rfl⟩ := HK.out
        exact ⟨k + 1, 4 * k + 4, _, ⟨by unfold wordsN; omega, by omega, rfl⟩, rfl, by go_num⟩
      case measure => simp [intOf]; omega
    · go_wp2_with fail
      refine (mul_any _ _ _ ⟨r0, by omega⟩ f0).mono ?_
      rintro e w' ⟨rfl, rfl⟩
      go_wp2_with fail
      refine (pow_any _ _ _ (mulF_U _ _) ⟨by omega, by omega⟩).mono ?_
      rintro e w' ⟨rfl, rfl⟩
      go_wp2_with fail
      go_ret
      obtain ⟨h1, rfl, rfl⟩ := HK.out
      have h2 : k = wordsN s := by unfold wordsN at h1 ⊢; omega
      exact ⟨ret_int (by rw [h2]; rfl), rfl⟩


theorem mod_lt_of {x n : Int} (h0 : 0 ≤ x) (h1 : x < 2305843009213693951) (hn : 0 < n) : 0 ≤ x % n ∧ x % n < 2305843009213693951 := by
  refine ⟨Int.emod_nonneg _ (by omega), ?_⟩
  obtain ⟨X, rfl⟩ := nat_of h0
  obtain ⟨N, rfl⟩ := nat_of (show 0 ≤ n by omega)
  have := Nat.mod_le X N
  omega
set_option maxHeartbeats 1000000 in
theorem cell_any (a : Int) (s : ByteArray) (n : Int) (w : World) (ha : U a) (hs : s.size ≤ 1152921504606846976) (hn0 : -9223372036854775808 ≤ n) (hn1 : n ≤ 9223372036854775807) :
    Calls Try.prog 76 #[.int .u64 a, .string s, .int .i64 n] w fun e w' => e = .returned (.int .i64 (cellF a s n)) ∧ w' = w := by
  have h0 := sumF_nn a s
  have h1 := sumF_lt a s
  by_cases h : n < 1
  · have S : Hid (cellF a s n = 0) := cellF_none a s n h
    go_enter Try.func76, Try.ntmps76
    go_wp2_with fail
    go_ret
    exact ⟨ret_int S.out.symm, rfl⟩
  · have S : Hid (cellF a s n = sumF a s % n) := (by unfold cellF; rw [if_neg h] : cellF a s n = sumF a s % n)
    obtain ⟨q0, q1⟩ := mod_lt_of h0 h1 (show 0 < n by omega)
    go_enter Try.func76, Try.ntmps76
    go_wp2_with fail
    refine (sum_any _ _ _ ha hs).mono ?_
    rintro e w' ⟨rfl, rfl⟩
    go_wp2_with fail
    go_ret
    exact ⟨ret_int S.out.symm, rfl⟩



end Go.Proofs.Ytihealembikkiaa.L2
