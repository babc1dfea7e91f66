
/-
  What each function of layer 1 and of its reference answers: the plain functions of YtihealembikkiaaNum; no call touches the memory.
-/
import Derived.Test.YtihealembikkiaaRows
import Derived.Test.YtihealembikkiaaNum
import Derived.WalkKit
import Derived.WalkLawsBesides
import Derived.Outline
import Derived.Lib.Mul64
import Derived.Laws.Bits64b
namespace Go.Proofs.Ytihealembikkiaa.L2
open Go.RowKit Fm

theorem ret_int {k : IntKind} {a b : Int} (h : a = b) : Ending.returned (.int k a) = .returned (.int k b) := by rw [h]

set_option maxHeartbeats 400000 in
theorem of_any (a : Int) (w : World) (h : U a) : Calls Try.prog 94 #[.int .u64 a] w fun e w' => e = .returned (.int .u64 (oF a)) ∧ w' = w := by
  obtain ⟨h0, h1⟩ := h
  go_enter Try.func94, Try.ntmps94
  go_wp2
  go_ret
  exact ⟨by unfold oF; rfl, rfl⟩
set_option maxHeartbeats 400000 in
theorem rof_any (a : Int) (w : World) (h : U a) : Calls Try.prog 97 #[.int .u64 a] w fun e w' => e = .returned (.int .u64 (oF a)) ∧ w' = w := by
  obtain ⟨h0, h1⟩ := h
  go_enter Try.func97, Try.ntmps97
  go_wp2
  go_ret
  exact ⟨by unfold oF; rfl, rfl⟩
set_option maxHeartbeats 400000 in
theorem radd_any (a b : Int) (w : World) (ha : U a) (hb : U b) : Calls Try.prog 66 #[.int .u64 a, .int .u64 b] w fun e w' => e = .returned (.int .u64 (addF a b)) ∧ w' = w := by
  obtain ⟨ha0, ha1⟩ := ha
  obtain ⟨hb0, hb1⟩ := hb
  go_enter Try.func66, Try.ntmps66
  go_wp2
  go_ret
  exact ⟨by rw [← add_eq]; unfold oF; rfl, rfl⟩
set_option maxHeartbeats 400000 in
theorem add_any (a b : Int) (w : World) (ha : U a) (hb : U b) : Calls Try.prog 72 #[.int .u64 a, .int .u64 b] w fun e w' => e = .returned (.int .u64 (addF a b)) ∧ w' = w := by
  have la := oF_nn a
  have la' := oF_lt a
  have lb := oF_nn b
  have lb' := oF_lt b
  go_enter Try.func72, Try.ntmps72
  go_wp2_with fail
  refine (of_any _ _ ha).mono ?_
  rintro e w' ⟨rfl, rfl⟩
  go_wp2_with fail
  refine (of_any _ _ hb).mono ?_
  rintro e w' ⟨rfl, rfl⟩
  go_wp2_with fail
  refine (of_any _ _ ⟨by omega, by omega⟩).mono ?_
  rintro e w' ⟨rfl, rfl⟩
  go_wp2_with fail
  go_ret
  exact ⟨ret_int (add_eq a b), rfl⟩
set_option maxHeartbeats 400000 in
theorem sub_any (a b : Int) (w : World) (ha : U a) (hb : U b) : Calls Try.prog 95 #[.int .u64 a, .int .u64 b] w fun e w' => e = .returned (.int .u64 (subF a b)) ∧ w' = w := by
  have la := oF_nn a
  have la' := oF_lt a
  have lb := oF_nn b
  have lb' := oF_lt b
  go_enter Try.func95, Try.ntmps95
  go_wp2_with fail
  refine (of_any _ _ ha).mono ?_
  rintro e w' ⟨rfl, rfl⟩
  go_wp2_with fail
  refine (of_any _ _ hb).mono ?_
  rintro e w' ⟨rfl, rfl⟩
  go_wp2_with fail
  refine (of_any _ _ ⟨by omega, by omega⟩).mono ?_
  rintro e w' ⟨rfl, rfl⟩
  go_wp2_with fail
  go_ret
  exact ⟨ret_int (sub_eq a b), rfl⟩
theorem wrap_neg (n : Int) (h0 : -9223372036854775808 ≤ n) (h : n < 0) : IntKind.u64.wrap (-IntKind.u64.wrap n) = -n := by
  rw [IntKind.wrap_u64, IntKind.wrap_u64]; omega
theorem wrap_pos (n : Int) (h0 : 0 ≤ n) (h : n ≤ 18446744073709551615) : IntKind.u64.wrap n = n := by
  rw [IntKind.wrap_u64]; omega
set_option maxHeartbeats 400000 in
theorem sgn_any (n : Int) (w : World) (h0 : -9223372036854775808 ≤ n) (h1 : n ≤ 9223372036854775807) : Calls Try.prog 73 #[.int .i64 n] w fun e w' => e = .returned (.int .u64 (oF n)) ∧ w' = w := by
  by_cases hn : 0 ≤ n
  · go_enter Try.func73, Try.ntmps73
    go_wp2_with fail
    refine (of_any _ _ ⟨by omega, by omega⟩).mono ?_
    rintro e w' ⟨rfl, rfl⟩
    go_wp2_with fail
    go_ret
    exact ⟨rfl, rfl⟩
  · go_enter Try.func73, Try.ntmps73
    go_wp2_with fail
    rw [wrap_neg n h0 (by omega)]
    refine (sub_any _ _ _ ⟨by omega, by omega⟩ ⟨by omega, by omega⟩).mono ?_
    rintro e w' ⟨rfl, rfl⟩
    go_wp2_with fail
    go_ret
    exact ⟨ret_int (by unfold subF oF; omega), rfl⟩
theorem tmod_pos (n : Int) (h : 0 ≤ n) : n.tmod 2305843009213693951 = n % 2305843009213693951 := Int.tmod_eq_emod_of_nonneg h
theorem tmod_neg (n : Int) (h : n < 0) : n.tmod 2305843009213693951 = -((-n) % 2305843009213693951) := by
  have e := Int.neg_tmod (-n) 2305843009213693951
  rw [Int.neg_neg, tmod_pos (-n) (by omega)] at e
  exact e
/-! ### math/bits.Mul64 -/
def hiF (x y : Int) : Int := x * y / 18446744073709551616
def loF (x y : Int) : Int := x * y % 18446744073709551616
theorem maskN (a : Nat) (ha : a < 18446744073709551616) : bits .and .u64 (a : Int) 4294967295 = ((a % 4294967296 : Nat) : Int) := by
  have h := bits_and_u64_nat a 4294967295 ha (by omega)
  have e : a &&& 4294967295 = a % 4294967296 := Nat.and_two_pow_sub_one_eq_mod a 32
  rw [e] at h
  exact h
theorem divN (a : Nat) : (a : Int) / 4294967296 = ((a / 4294967296 : Nat) : Int) := by omega
theorem mulN (a b : Nat) : (a : Int) * (b : Int) = ((a * b : Nat) : Int) := (Int.natCast_mul a b).symm
theorem addN (a b : Nat) : (a : Int) + (b : Int) = ((a + b : Nat) : Int) := (Int.natCast_add a b).symm
theorem wrapN (a : Nat) (ha : a < 18446744073709551616) : IntKind.u64.wrap (a : Int) = (a : Int) := by rw [IntKind.wrap_u64]; omega
theorem wrapM (a : Nat) : IntKind.u64.wrap (a : Int) = ((a % 18446744073709551616 : Nat) : Int) := by rw [IntKind.wrap_u64]; omega
theorem hiN (x y : Nat) : hiF x y = ((x * y / 18446744073709551616 : Nat) : Int) := by unfold hiF; rw [mulN]; omega
theorem loN (x y : Nat) : loF x y = ((x * y % 18446744073709551616 : Nat) : Int) := by unfold loF; rw [mulN]; omega

set_option maxHeartbeats 1000000 in
theorem ml64_nat (x y : Nat) (hx : x < 18446744073709551616) (hy : y < 18446744073709551616) (w : World) :
    Calls Try.prog 96 #[.int .u64 x, .int .u64 y] w fun e w' => e = .returned (.tuple #[.int .u64 ((x * y / 18446744073709551616 : Nat) : Int), .int .u64 ((x * y % 18446744073709551616 : Nat) : Int)]) ∧ w' = w := by
  obtain ⟨bd, bt, bw, hhi⟩ := Lib.mul64_hi x y hx hy
  have ba := Lib.half_mul_le (a := x / 4294967296) (b := y / 4294967296) (by omega) (by omega)
  have bb := Lib.half_mul_le (a := x / 4294967296) (b := y % 4294967296) (by omega) (by omega)
  have bc := Lib.half_mul_le (a := x % 4294967296) (b := y / 4294967296) (by omega) (by omega)
  have ba' : x / 4294967296 * (y / 4294967296) < 18446744073709551616 := by omega
  have bb' : x / 4294967296 * (y % 4294967296) < 18446744073709551616 := by omega
  have bc' : x % 4294967296 * (y / 4294967296) < 18446744073709551616 := by omega
  have bh1 : x / 4294967296 * (y / 4294967296) + (x / 4294967296 * (y % 4294967296) + x % 4294967296 * (y % 4294967296) / 4294967296) / 4294967296 < 18446744073709551616 := by omega
  have bh : x / 4294967296 * (y / 4294967296) + (x / 4294967296 * (y % 4294967296) + x % 4294967296 * (y % 4294967296) / 4294967296) / 4294967296 + ((x / 4294967296 * (y % 4294967296) + x % 4294967296 * (y % 4294967296) / 4294967296) % 4294967296 + x % 4294967296 * (y / 4294967296)) / 4294967296 < 18446744073709551616 := by omega
  go_enter Try.func96, Try.ntmps96
  go_wp2
  simp only [maskN x hx, maskN y hy, divN, mulN, addN, wrapN _ bd, wrapN _ bb', wrapN _ bt, maskN _ bt, wrapN _ bc', wrapN _ bw, wrapN _ ba', wrapN _ bh1, wrapN _ bh, wrapM (x * y)]
  rw [hhi]
  go_ret2
  exact ⟨rfl, rfl⟩
theorem ml64_any (x y : Int) (w : World) (hx : U x) (hy : U y) : Calls Try.prog 96 #[.int .u64 x, .int .u64 y] w fun e w' => e = .returned (.tuple #[.int .u64 (hiF x y), .int .u64 (loF x y)]) ∧ w' = w := by
  obtain ⟨X, rfl⟩ := nat_of hx.1
  obtain ⟨Y, rfl⟩ := nat_of hy.1
  have h1 := hx.2
  have h2 := hy.2
  rw [hiN, loN]
  exact ml64_nat X Y (by omega) (by omega) w

theorem fold_bits (h l : Int) (h0 : 0 ≤ h) (h1 : h ≤ 288230376151711743) (l0 : 0 ≤ l) (l1 : l ≤ 18446744073709551615) :
    IntKind.u64.wrap (bits BinOp.or IntKind.u64 (h * 8) (l / 2305843009213693952) + bits BinOp.and IntKind.u64 l 2305843009213693951) = h * 8 + l / 2305843009213693952 + l % 2305843009213693952 := by
  obtain ⟨H, rfl⟩ := nat_of h0
  obtain ⟨L, rfl⟩ := nat_of l0
  have e1 : (H : Int) * 8 = ((2 ^ 3 * H : Nat) : Int) := by omega
  have e2 : (L : Int) / 2305843009213693952 = ((L / 2305843009213693952 : Nat) : Int) := by omega
  have o := bits_or_u64_nat (2 ^ 3 * H) (L / 2305843009213693952) (by omega) (by omega)
  have n := bits_and_u64_nat L 2305843009213693951 (by omega) (by omega)
  have e3 : L &&& 2305843009213693951 = L % 2305843009213693952 := Nat.and_two_pow_sub_one_eq_mod L 61
  rw [← Nat.two_pow_add_eq_or_of_lt (i := 3) (by omega)] at o
  rw [e3] at n
  rw [e1, e2, o]
  rw [show ((2305843009213693951 : Nat) : Int) = 2305843009213693951 from rfl] at n
  rw [n, IntKind.wrap_u64]
  omega

set_option maxHeartbeats 400000 in
theorem mul_any (a b : Int) (w : World) (ha : U a) (hb : U b) : Calls Try.prog 74 #[.int .u64 a, .int .u64 b] w fun e w' => e = .returned (.int .u64 (mulF a b)) ∧ w' = w := by
  have p := prod_lt (oF_nn a) (oF_lt a) (oF_nn b) (oF_lt b)
  have q1 : 0 ≤ hiF (oF a) (oF b) := by unfold hiF; omega
  have q2 : hiF (oF a) (oF b) ≤ 288230376151711743 := by unfold hiF; omega
  have q3 : 0 ≤ loF (oF a) (oF b) := by unfold loF; omega
  have q4 : loF (oF a) (oF b) ≤ 18446744073709551615 := by unfold loF; omega
  clear p
  go_enter Try.func74, Try.ntmps74
  go_wp2_with fail
  refine (of_any _ _ ha).mono ?_
  rintro e w' ⟨rfl, rfl⟩
  go_wp2_with fail
  refine (of_any _ _ hb).mono ?_
  rintro e w' ⟨rfl, rfl⟩
  go_wp2_with fail
  refine (ml64_any _ _ _ (oF_U a) (oF_U b)).mono ?_
  rintro e w' ⟨rfl, rfl⟩
  go_wp2_with fail
  rw [fold_bits _ _ q1 q2 q3 q4]
  refine (of_any _ _ ⟨by omega, by omega⟩).mono ?_
  rintro e w' ⟨rfl, rfl⟩
  go_wp2_with fail
  go_ret
  exact ⟨ret_int (by rw [← mulF_oF]; unfold hiF loF mulF; generalize oF a * oF b = n; unfold oF; omega), rfl⟩

/-! ### The reference's product, by doubling -/
theorem dbl (A k : Int) : (A + A) % 2305843009213693951 * k % 2305843009213693951 = (A * k + A * k) % 2305843009213693951 := by
  rw [Int.mul_emod ((A + A) % _) k, Int.emod_emod, ← Int.mul_emod, Int.add_mul]
theorem dbl_odd (N A B : Int) (ho : B % 2 = 1) : addF ((N + A) % 2305843009213693951) (mulF ((A + A) % 2305843009213693951) (B / 2)) = addF N (mulF A B) := by
  have e : B = 2 * (B / 2) + 1 := by omega
  unfold addF mulF
  rw [dbl]
  conv => rhs; rw [e, Int.mul_add, Int.mul_one, Int.mul_left_comm]
  generalize A * (B / 2) = X
  omega
theorem dbl_even (N A B : Int) (ho : B % 2 = 0) : addF N (mulF ((A + A) % 2305843009213693951) (B / 2)) = addF N (mulF A B) := by
  have e : B = 2 * (B / 2) := by omega
  unfold addF mulF
  rw [dbl]
  conv => rhs; rw [e, Int.mul_left_comm]
  generalize A * (B / 2) = X
  omega

set_option maxHeartbeats 800000 in
theorem rmul_any (a b : Int) (w : World) (ha : U a) (hb : U b) : Calls Try.prog 65 #[.int .u64 a, .int .u64 b] w fun e w' => e = .returned (.int .u64 (mulF a b)) ∧ w' = w := by
  have GOAL : Hid (mulF (oF a) (oF b) = mulF a b) := mulF_oF a b
  obtain ⟨ha0, ha1⟩ := ha
  obtain ⟨hb0, hb1⟩ := hb
  go_enter Try.func65, Try.ntmps65
  go_wp2
  go_loop [0, 1, 5] (fun x y n => ∃ A B N : Int, 0 ≤ A ∧ A < 2305843009213693951 ∧ 0 ≤ B ∧ B < 2305843009213693951 ∧ 0 ≤ N ∧ N < 2305843009213693951 ∧ x = .int .u64 A ∧ y = .int .u64 B ∧ n = .int .u64 N ∧ addF N (mulF A B) = mulF a b) (fun _ y _ => (intOf y).toNat)
  case atStart =>
    refine ⟨_, _, 0, ?_, ?_, ?_, ?_, ?_, ?_, rfl, rfl, rfl, ?_⟩
    all_goals first | omega | skip
    rw [← GOAL.out]; unfold addF mulF oF; omega
  case round =>
    obtain ⟨A, B, N, hA, hA', hB, hB', hN, hN', rfl, rfl, rfl, hr⟩ := hrel
    have HR : Hid (addF N (mulF A B) = mulF a b) := hr
    clear hr
    by_cases hz : 0 < B
    · rcases (by omega : B % 2 = 0 ∨ B % 2 = 1) with ho | ho
      · have HO : Hid (B % 2 = 0) := ho
        have ho' : (B % 2 == 1) = false := by rw [ho]; rfl
        clear ho
        go_wp2
        go_round
        case rel => exact ⟨_, _, _, by omega, by omega, by omega, by omega, by omega, by omega, rfl, rfl, rfl, by rw [← HR.out]; exact dbl_even N A B HO.out⟩
        case measure => simp [intOf]; omega
      · have HO : Hid (B % 2 = 1) := ho
        have ho' : (B % 2 == 1) = true := by rw [ho]; rfl
        clear ho
        go_wp2
        go_round
        case rel => exact ⟨_, _, _, by omega, by omega, by omega, by omega, by omega, by omega, rfl, rfl, rfl, by rw [← HR.out]; exact dbl_odd N A B HO.out⟩
        case measure => simp [intOf]; omega
    · have HB : Hid (B = 0) := (by omega : B = 0)
      go_wp2
      go_ret
      exact ⟨ret_int (by rw [← HR.out, HB.out]; unfold addF mulF; omega), rfl⟩
end Go.Proofs.Ytihealembikkiaa.L2
