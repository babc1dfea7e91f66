
/-
  What Pow and Inv of layer 1, the reference's Pow and the fixed answer of the statements answer; no call touches the memory.
-/
import Derived.Test.YtihealembikkiaaCalls
import Derived.WalkSmall
namespace Go.Proofs.Ytihealembikkiaa.L2
open Go.RowKit Fm

theorem mulF_one (p : Int) (h0 : 0 ≤ p) (h1 : p < 2305843009213693951) : mulF p 1 = p := by unfold mulF; omega
theorem one_mulF (p : Int) (h0 : 0 ≤ p) (h1 : p < 2305843009213693951) : mulF 1 p = p := by unfold mulF; omega

set_option maxHeartbeats 800000 in
theorem pow_any (a n : Int) (w : World) (ha : U a) (hn : U n) : Calls Try.prog 106 #[.int .u64 a, .int .u64 n] w fun e w' => e = .returned (.int .u64 (powF a n)) ∧ w' = w := by
  have GOAL : Hid (mulF 1 (powF (oF a) n) = powF a n) := by
    show _ = _
    rw [pow_oF, one_mulF _ (powF_nn a n) (powF_lt a n)]
  have ua := oF_nn a
  have ua' := oF_lt a
  obtain ⟨hn0, hn1⟩ := hn
  go_enter Try.func106, Try.ntmps106
  go_wp2_with fail
  refine (of_any _ _ ha).mono ?_
  rintro e w' ⟨rfl, rfl⟩
  go_wp2_with fail
  go_loop [1, 5, 6] (fun m p s => ∃ M P S : Int, 0 ≤ M ∧ M ≤ 18446744073709551615 ∧ 0 ≤ P ∧ P < 2305843009213693951 ∧ 0 ≤ S ∧ S < 2305843009213693951 ∧ m = .int .u64 M ∧ p = .int .u64 P ∧ s = .int .u64 S ∧ mulF P (powF S M) = powF a n) (fun m _ _ => (intOf m).toNat)
  case atStart => exact ⟨n, 1, oF a, hn0, hn1, by omega, by omega, ua, ua', rfl, rfl, rfl, GOAL.out⟩
  case round =>
    obtain ⟨M, P, S, hM, hM', hP, hP', hS, hS', rfl, rfl, rfl, hr⟩ := hrel
    have HR : Hid (mulF P (powF S M) = powF a n) := hr
    clear hr ua ua' GOAL hn0 hn1
    have hand : bits BinOp.and IntKind.u64 M 1 = M % 2 := and_one_u64 M hM hM'
    have sl := mulF_nn S S
    have sl' := mulF_lt S S
    have pl := mulF_nn P S
    have pl' := mulF_lt P S
    by_cases hz : 0 < M
    · rcases (by omega : M % 2 = 0 ∨ M % 2 = 1) with ho | ho
      · have HO : Hid (M % 2 = 0) := ho
        have ho' : (M % 2 == 1) = false := by rw [ho]; rfl
        clear ho
        go_wp2_with fail
        refine (mul_any _ _ _ ⟨by omega, by omega⟩ ⟨by omega, by omega⟩).mono ?_
        rintro e w' ⟨rfl, rfl⟩
        go_wp2_with fail
        go_round
        case rel => exact ⟨_, _, _, by omega, by omega, hP, hP', sl, sl', rfl, rfl, rfl, by rw [← HR.out]; exact round_even P S M HO.out⟩
        case measure => simp [intOf]; omega
      · have HO : Hid (M % 2 = 1) := ho
        have ho' : (M % 2 == 1) = true := by rw [ho]; rfl
        clear ho
        go_wp2_with fail
        refine (mul_any _ _ _ ⟨by omega, by omega⟩ ⟨by omega, by omega⟩).mono ?_
        rintro e w' ⟨rfl, rfl⟩
        go_wp2_with fail
        refine (mul_any _ _ _ ⟨by omega, by omega⟩ ⟨by omega, by omega⟩).mono ?_
        rintro e w' ⟨rfl, rfl⟩
        go_wp2_with fail
        go_round
        case rel => exact ⟨_, _, _, by omega, by omega, pl, pl', sl, sl', rfl, rfl, rfl, by rw [← HR.out]; exact round_odd P S M hz HO.out⟩
        case measure => simp [intOf]; omega
    · have HM : Hid (M = 0) := (by omega : M = 0)
      go_wp2_with fail
      go_ret
      exact ⟨ret_int (by rw [← HR.out, HM.out, pow_zero_F, mulF_one _ hP hP']), rfl⟩

set_option maxHeartbeats 800000 in
theorem rpow_any (k : Nat) : ∀ (a n : Int) (w : World), n ≤ k → U a → U n →
    Calls Try.prog 67 #[.int .u64 a, .int .u64 n] w fun e w' => e = .returned (.int .u64 (powF a n)) ∧ w' = w := by
  induction k with
  | zero =>
    intro a n w hk ha hn
    have h0 := hn.1
    obtain rfl : n = 0 := by omega
    clear hk hn h0
    go_enter Try.func67, Try.ntmps67
    go_wp2_with fail
    go_ret
    exact ⟨ret_int (pow_zero_F a).symm, rfl⟩
  | succ k ih =>
    intro a n w hk ha hn
    by_cases hz : n = 0
    · subst hz
      clear hk hn ih
      go_enter Try.func67, Try.ntmps67
      go_wp2_with fail
      go_ret
      exact ⟨ret_int (pow_zero_F a).symm, rfl⟩
    · obtain ⟨hn0, hn1⟩ := hn
      have hz' : (n == 0) = false := by simpa using hz
      have hpos : 0 < n := by omega
      have ih' := fun w => ih a (n / 2) w (by omega) ha ⟨by omega, by omega⟩
      have IH : Hid (∀ w, Calls Try.prog 67 #[.int .u64 a, .int .u64 (n / 2)] w fun e w' => e = .returned (.int .u64 (powF a (n / 2))) ∧ w' = w) := ih'
      clear ih ih' hz hk
      rcases (by omega : n % 2 = 0 ∨ n % 2 = 1) with ho | ho
      · have HO : Hid (n % 2 = 0) := ho
        have ho' : (n % 2 == 1) = false := by rw [ho]; rfl
        clear ho
        go_enter Try.func67, Try.ntmps67
        go_wp2_with fail
        refine (IH.out _).mono ?_
        rintro e w' ⟨rfl, rfl⟩
        go_wp2_with fail
        refine (rmul_any _ _ _ (powF_U _ _) (powF_U _ _)).mono ?_
        rintro e w' ⟨rfl, rfl⟩
        go_wp2_with fail
        go_ret
        exact ⟨ret_int (half_even a n HO.out), rfl⟩
      · have HO : Hid (n % 2 = 1) := ho
        have ho' : (n % 2 == 1) = true := by rw [ho]; rfl
        clear ho
        go_enter Try.func67, Try.ntmps67
        go_wp2_with fail
        refine (IH.out _).mono ?_
        rintro e w' ⟨rfl, rfl⟩
        go_wp2_with fail
        refine (rmul_any _ _ _ (powF_U _ _) (powF_U _ _)).mono ?_
        rintro e w' ⟨rfl, rfl⟩
        go_wp2_with fail
        refine (rmul_any _ _ _ (mulF_U _ _) ha).mono ?_
        rintro e w' ⟨rfl, rfl⟩
        go_wp2_with fail
        go_ret
        exact ⟨ret_int (half_odd a n hpos HO.out), rfl⟩

end Go.Proofs.Ytihealembikkiaa.L2
