
/-
  The numbers modulo 2^61 - 1 as plain functions on integers, and what holds of them: nothing of the program is in this text.
-/
import Derived.Test.YtihealembikkiaaFermat
namespace Go.Proofs.Ytihealembikkiaa.Fm

def oF (a : Int) : Int := a % 2305843009213693951
def addF (a b : Int) : Int := (a + b) % 2305843009213693951
def subF (a b : Int) : Int := (a - b) % 2305843009213693951
def mulF (a b : Int) : Int := (a * b) % 2305843009213693951
def powF (a n : Int) : Int := (a ^ n.toNat) % 2305843009213693951
/-- A number that a uint64 holds. -/
def U (a : Int) : Prop := 0 ≤ a ∧ a ≤ 18446744073709551615

theorem oF_lt (a : Int) : oF a < 2305843009213693951 := by unfold oF; omega
theorem oF_nn (a : Int) : 0 ≤ oF a := by unfold oF; omega
theorem addF_lt (a b : Int) : addF a b < 2305843009213693951 := by unfold addF; omega
theorem addF_nn (a b : Int) : 0 ≤ addF a b := by unfold addF; omega
theorem subF_lt (a b : Int) : subF a b < 2305843009213693951 := by unfold subF; omega
theorem subF_nn (a b : Int) : 0 ≤ subF a b := by unfold subF; omega
theorem mulF_lt (a b : Int) : mulF a b < 2305843009213693951 := by unfold mulF; exact Int.emod_lt_of_pos _ (by omega)
theorem mulF_nn (a b : Int) : 0 ≤ mulF a b := by unfold mulF; exact Int.emod_nonneg _ (by omega)
theorem powF_lt (a b : Int) : powF a b < 2305843009213693951 := by unfold powF; exact Int.emod_lt_of_pos _ (by omega)
theorem powF_nn (a b : Int) : 0 ≤ powF a b := by unfold powF; exact Int.emod_nonneg _ (by omega)
theorem oF_U (a : Int) : U (oF a) := ⟨oF_nn a, by have := oF_lt a; omega⟩
theorem addF_U (a b : Int) : U (addF a b) := ⟨addF_nn a b, by have := addF_lt a b; omega⟩
theorem subF_U (a b : Int) : U (subF a b) := ⟨subF_nn a b, by have := subF_lt a b; omega⟩
theorem mulF_U (a b : Int) : U (mulF a b) := ⟨mulF_nn a b, by have := mulF_lt a b; omega⟩
theorem powF_U (a b : Int) : U (powF a b) := ⟨powF_nn a b, by have := powF_lt a b; omega⟩

theorem add_eq (a b : Int) : oF (oF a + oF b) = addF a b := by unfold oF addF; omega
theorem sub_eq (a b : Int) : oF (oF a + 2305843009213693951 - oF b) = subF a b := by unfold oF subF; omega
theorem mulF_oF (a b : Int) : mulF (oF a) (oF b) = mulF a b := by unfold mulF oF; rw [← Int.mul_emod]
theorem addF_oF (a b : Int) : addF (oF a) (oF b) = addF a b := by unfold addF oF; omega
theorem subF_oF (a b : Int) : subF (oF a) (oF b) = subF a b := by unfold subF oF; omega
theorem fold_eq (n : Int) : (n / 2305843009213693952 + n % 2305843009213693952) % 2305843009213693951 = n % 2305843009213693951 := by omega
theorem prod_lt {x y : Int} (hx : 0 ≤ x) (hx' : x < 2305843009213693951) (hy : 0 ≤ y) (hy' : y < 2305843009213693951) : 0 ≤ x * y ∧ x * y ≤ 5316911983139663484748116127690522500 := by
  refine ⟨Int.mul_nonneg hx hy, ?_⟩
  have := Int.mul_le_mul (a := x) (b := y) (c := 2305843009213693950) (d := 2305843009213693950) (by omega) (by omega) hy (by omega)
  omega

/-! ### The laws -/
theorem mul_add_F (a b c : Int) : mulF a (addF b c) = addF (mulF a b) (mulF a c) := by
  unfold mulF addF
  rw [Int.mul_emod a ((b + c) % _), Int.emod_emod, ← Int.mul_emod, Int.mul_add, Int.add_emod]
theorem mul_assoc_F (a b c : Int) : mulF a (mulF b c) = mulF (mulF a b) c := by
  unfold mulF
  rw [Int.mul_emod a ((b * c) % _), Int.emod_emod, ← Int.mul_emod, Int.mul_emod ((a * b) % _) c, Int.emod_emod, ← Int.mul_emod, Int.mul_assoc]
theorem mul_comm_F (a b : Int) : mulF a b = mulF b a := by unfold mulF; rw [Int.mul_comm]
theorem add_assoc_F (a b c : Int) : addF a (addF b c) = addF (addF a b) c := by unfold addF; omega
theorem add_comm_F (a b : Int) : addF a b = addF b a := by unfold addF; rw [Int.add_comm]
theorem back_F (a b : Int) : subF (addF a b) b = oF a := by unfold subF addF oF; omega
theorem sub_self_F (a : Int) : subF a a = 0 := by unfold subF; omega
theorem sgn_F (m : Int) : addF (oF m) (oF (-m)) = 0 := by unfold addF oF; omega
theorem pow_zero_F (a : Int) : powF a 0 = 1 := by unfold powF; simp
theorem pow_succ_F (a n : Int) (hn : 0 ≤ n) : powF a (n + 1) = mulF (powF a n) a := by
  unfold powF mulF
  have e : (n + 1).toNat = n.toNat + 1 := by omega
  rw [e, Int.pow_succ, Int.mul_emod (a ^ n.toNat % _) a, Int.emod_emod, ← Int.mul_emod]
theorem oF_mulF (a b : Int) : oF (mulF a b) = mulF a b := by unfold oF mulF; exact Int.emod_emod ..
theorem oF_powF (a b : Int) : oF (powF a b) = powF a b := by unfold oF powF; exact Int.emod_emod ..

/-! ### What hangs on that 2^61 - 1 is a prime -/
theorem nat_of {a : Int} (h : 0 ≤ a) : ∃ n : Nat, a = n := ⟨a.toNat, by omega⟩
theorem oF_nat (n : Nat) : oF n = ((n % 2305843009213693951 : Nat) : Int) := by unfold oF; omega
theorem powF_nat (n : Nat) (k : Int) : powF n k = ((n ^ k.toNat % 2305843009213693951 : Nat) : Int) := by
  unfold powF; rw [Int.natCast_emod, Int.natCast_pow]; rfl
theorem mulF_nat (n k : Nat) : mulF n k = ((n * k % 2305843009213693951 : Nat) : Int) := by
  unfold mulF; rw [Int.natCast_emod, Int.natCast_mul]; rfl

theorem fermat_F (a : Int) (ha : 0 ≤ a) (h : oF a ≠ 0) : powF a 2305843009213693950 = 1 := by
  obtain ⟨n, rfl⟩ := nat_of ha
  rw [oF_nat] at h
  have := flt prime n (by omega)
  have e : (2305843009213693950 : Int).toNat = 2305843009213693951 - 1 := by decide
  rw [powF_nat, e, this]; rfl
theorem fermat_zero (a k : Int) (ha : oF a = 0) (hk : 0 < k) : powF a k = 0 := by
  have e : k = (k - 1) + 1 := by omega
  rw [e, pow_succ_F a (k - 1) (by omega), ← mulF_oF, ha]
  unfold mulF; simp
theorem inverse_F (a : Int) (ha : 0 ≤ a) (h : oF a ≠ 0) : mulF a (powF a 2305843009213693949) = 1 := by
  rw [mul_comm_F, ← pow_succ_F a 2305843009213693949 (by omega)]
  exact fermat_F a ha h
theorem zero_F (a b : Int) (ha : 0 ≤ a) (hb : 0 ≤ b) : mulF a b = 0 ↔ oF a = 0 ∨ oF b = 0 := by
  obtain ⟨n, rfl⟩ := nat_of ha
  obtain ⟨k, rfl⟩ := nat_of hb
  rw [mulF_nat, oF_nat, oF_nat]
  constructor
  · intro h
    have hd : 2305843009213693951 ∣ n * k := Nat.dvd_of_mod_eq_zero (by omega)
    by_cases hn : 2305843009213693951 ∣ n
    · exact Or.inl (by have := Nat.mod_eq_zero_of_dvd hn; omega)
    · exact Or.inr (by have := Nat.mod_eq_zero_of_dvd (euclid prime hd hn); omega)
  · rintro (h | h)
    · have h1 : n % 2305843009213693951 = 0 := by omega
      rw [Nat.mul_mod, h1, Nat.zero_mul]; rfl
    · have h1 : k % 2305843009213693951 = 0 := by omega
      rw [Nat.mul_mod, h1, Nat.mul_zero]; rfl

/-! ### Powers by squares -/
theorem pow_sq_F (a n : Int) : powF (mulF a a) n = powF a (2 * n) := by
  unfold powF mulF
  have e : (2 * n).toNat = 2 * n.toNat := by omega
  rw [e, Int.pow_mul]
  generalize n.toNat = k
  have e2 : a ^ 2 = a * a := by rw [Int.pow_succ, Int.pow_succ, Int.pow_zero, Int.one_mul]
  rw [e2]
  induction k with
  | zero => rw [Int.pow_zero, Int.pow_zero]
  | succ k ih =>
    rw [Int.pow_succ, Int.pow_succ, Int.mul_emod, ih, Int.emod_emod, ← Int.mul_emod]
theorem pow_oF (a n : Int) : powF (oF a) n = powF a n := by
  unfold powF oF
  generalize n.toNat = k
  induction k with
  | zero => rw [Int.pow_zero, Int.pow_zero]
  | succ k ih => rw [Int.pow_succ, Int.pow_succ, Int.mul_emod, ih, Int.emod_emod, ← Int.mul_emod]
/-- One round of the loop: what is left to be made is made. -/
theorem round_odd (p s n : Int) (hn : 0 < n) (ho : n % 2 = 1) : mulF (mulF p s) (powF (mulF s s) (n / 2)) = mulF p (powF s n) := by
  have e : n = 2 * (n / 2) + 1 := by omega
  rw [pow_sq_F, ← mul_assoc_F]
  conv => rhs; rw [e, pow_succ_F s _ (by omega), mul_comm_F _ s]
theorem round_even (p s n : Int) (ho : n % 2 = 0) : mulF p (powF (mulF s s) (n / 2)) = mulF p (powF s n) := by
  have e : n = 2 * (n / 2) := by omega
  rw [pow_sq_F]
  conv => rhs; rw [e]
theorem sq_eq (a m : Int) : mulF (powF a m) (powF a m) = powF (mulF a a) m := by
  unfold powF mulF
  generalize m.toNat = k
  rw [← Int.mul_emod]
  induction k with
  | zero => rw [Int.pow_zero, Int.pow_zero, Int.one_mul]
  | succ k ih =>
    rw [Int.pow_succ, Int.pow_succ]
    have t : a ^ k * a * (a ^ k * a) = (a ^ k * a ^ k) * (a * a) := by rw [Int.mul_assoc, Int.mul_assoc, Int.mul_left_comm a]
    rw [t, Int.mul_emod, ih, Int.mul_emod ((a * a % _) ^ k % _), Int.emod_emod, Int.emod_emod]
    rw [← Int.mul_emod, Int.mul_emod _ (a * a % _), Int.emod_emod, ← Int.mul_emod]
theorem half_odd (a n : Int) (hn : 0 < n) (ho : n % 2 = 1) : mulF (mulF (powF a (n / 2)) (powF a (n / 2))) a = powF a n := by
  have e : n = 2 * (n / 2) + 1 := by omega
  conv => rhs; rw [e, pow_succ_F a _ (by omega)]
  rw [sq_eq, pow_sq_F]
theorem half_even (a n : Int) (ho : n % 2 = 0) : mulF (powF a (n / 2)) (powF a (n / 2)) = powF a n := by
  have e : n = 2 * (n / 2) := by omega
  conv => rhs; rw [e]
  rw [sq_eq, pow_sq_F]

/-! ### The fixed answer -/
theorem two_pow (k : Nat) : 2 ^ (61 * k + 60) % 2305843009213693951 = 1152921504606846976 := by
  rw [Nat.pow_add, Nat.pow_mul, Nat.mul_mod, Nat.pow_mod]
  have e : 2 ^ 61 % 2305843009213693951 = 1 := by decide +kernel
  rw [e, Nat.one_pow]
theorem inv_two : powF 2 2305843009213693949 = 1152921504606846976 := by
  have e : (2305843009213693949 : Int).toNat = 61 * 37800705069076949 + 60 := by decide
  have h := powF_nat 2 2305843009213693949
  rw [e] at h
  exact h.trans (congrArg Nat.cast (two_pow 37800705069076949))
theorem awake_add : addF 2305843009213693950 2 = 1 := by decide +kernel
theorem awake_mul : mulF 1152921504606846976 2 = 1 := by decide +kernel

end Go.Proofs.Ytihealembikkiaa.Fm
