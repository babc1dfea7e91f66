
/-
  2^61 - 1 is a prime, and of a prime p: a to the power of p is a modulo p. Plain arithmetic: nothing of the program is in this text.
-/
namespace Go.Proofs.Ytihealembikkiaa.Fm

/-! ### Pascal's numbers and the sum of powers -/
def ch : Nat → Nat → Nat
  | _, 0 => 1
  | 0, _ + 1 => 0
  | n + 1, k + 1 => ch n k + ch n (k + 1)

theorem ch_zero (n : Nat) : ch n 0 = 1 := by cases n <;> rfl
theorem ch_step (n k : Nat) : ch (n + 1) (k + 1) = ch n k + ch n (k + 1) := rfl
theorem ch_gt : ∀ (n k : Nat), n < k → ch n k = 0
  | 0, 0, h => by omega
  | 0, _ + 1, _ => rfl
  | _ + 1, 0, h => by omega
  | n + 1, k + 1, h => by rw [ch_step, ch_gt n k (by omega), ch_gt n (k + 1) (by omega)]
theorem ch_self : ∀ n : Nat, ch n n = 1
  | 0 => rfl
  | n + 1 => by rw [ch_step, ch_self n, ch_gt n (n + 1) (by omega)]
theorem ch_mul (n : Nat) : ∀ k : Nat, (k + 1) * ch (n + 1) (k + 1) = (n + 1) * ch n k := by
  induction n with
  | zero =>
    intro k
    cases k with
    | zero => rfl
    | succ k => rw [ch_step, ch_gt 0 (k + 1) (by omega), ch_gt 0 (k + 1 + 1) (by omega)]; omega
  | succ n ih =>
    intro k
    cases k with
    | zero =>
      have h := ih 0
      rw [ch_step, ch_zero]
      rw [ch_zero] at h
      omega
    | succ k =>
      have h1 := ih k
      have h2 := ih (k + 1)
      rw [ch_step (n + 1) (k + 1)]
      have e : ch (n + 1) (k + 1) = ch n k + ch n (k + 1) := ch_step n k
      have t1 : (k + 1 + 1) * (ch (n + 1) (k + 1) + ch (n + 1) (k + 1 + 1)) = (k + 1) * ch (n + 1) (k + 1) + ch (n + 1) (k + 1) + (k + 1 + 1) * ch (n + 1) (k + 1 + 1) := by
        rw [Nat.mul_add, Nat.add_mul (k + 1) 1]; omega
      rw [t1, h1, h2]
      have t2 : (n + 1 + 1) * ch (n + 1) (k + 1) = (n + 1) * ch (n + 1) (k + 1) + ch (n + 1) (k + 1) := by
        rw [Nat.add_mul (n + 1) 1]; omega
      rw [t2]
      have t3 : (n + 1) * ch (n + 1) (k + 1) = (n + 1) * ch n k + (n + 1) * ch n (k + 1) := by rw [e, Nat.mul_add]
      omega

def bs (a n : Nat) : Nat → Nat
  | 0 => 0
  | m + 1 => bs a n m + ch n m * a ^ m
theorem bs_next (a n m : Nat) : bs a n (m + 1) = bs a n m + ch n m * a ^ m := rfl
theorem bs_step (a n m : Nat) : bs a (n + 1) (m + 1) = bs a n (m + 1) + a * bs a n m := by
  induction m with
  | zero => simp [bs, ch_zero]
  | succ m ih =>
    rw [bs_next a (n + 1), ih, bs_next a n (m + 1), bs_next a n m, ch_step, Nat.mul_add, Nat.add_mul]
    have e : a * (ch n m * a ^ m) = ch n m * a ^ (m + 1) := by rw [Nat.pow_succ]; rw [Nat.mul_left_comm, Nat.mul_comm a]
    rw [e]; omega
theorem binom (a : Nat) : ∀ n : Nat, (a + 1) ^ n = bs a n (n + 1)
  | 0 => by simp [bs, ch]
  | n + 1 => by
    rw [Nat.pow_succ, binom a n, bs_step, bs_next a n (n + 1), ch_gt n (n + 1) (by omega), Nat.mul_add, Nat.mul_comm]
    omega

/-! ### A prime -/
def Pr (p : Nat) : Prop := 2 ≤ p ∧ ∀ m, m ∣ p → m = 1 ∨ m = p

theorem euclid {p a b : Nat} (hp : Pr p) (h : p ∣ a * b) (ha : ¬ p ∣ a) : p ∣ b := by
  rcases hp.2 (Nat.gcd p a) (Nat.gcd_dvd_left p a) with h1 | h1
  · exact Nat.Coprime.dvd_of_dvd_mul_left h1 h
  · exact absurd (by have := Nat.gcd_dvd_right p a; rw [h1] at this; exact this) ha

theorem ch_dvd {p : Nat} (hp : Pr p) (k : Nat) (h0 : 0 < k) (h1 : k < p) : p ∣ ch p k := by
  obtain ⟨j, rfl⟩ : ∃ j, k = j + 1 := ⟨k - 1, by omega⟩
  obtain ⟨q, rfl⟩ : ∃ q, p = q + 1 := ⟨p - 1, by omega⟩
  have h := ch_mul q j
  refine euclid hp (a := j + 1) ⟨_, h⟩ ?_
  intro hd
  have := Nat.le_of_dvd (by omega) hd
  omega

theorem bs_mod {p : Nat} (hp : Pr p) (a : Nat) : ∀ m : Nat, m + 1 ≤ p → ∃ t, bs a p (m + 1) = 1 + p * t
  | 0, _ => ⟨0, by simp [bs, ch_zero]⟩
  | m + 1, h => by
    obtain ⟨t, ht⟩ := bs_mod hp a m (by omega)
    obtain ⟨s, hs⟩ := ch_dvd hp (m + 1) (by omega) (by omega)
    refine ⟨t + s * a ^ (m + 1), ?_⟩
    rw [bs_next, ht, hs, Nat.mul_add, Nat.mul_assoc]; omega

theorem fermat {p : Nat} (hp : Pr p) (a : Nat) : a ^ p % p = a % p := by
  induction a with
  | zero => rw [Nat.zero_pow (by have := hp.1; omega)]
  | succ a ih =>
    obtain ⟨t, ht⟩ := bs_mod hp a (p - 1) (by have := hp.1; omega)
    have e : p - 1 + 1 = p := by have := hp.1; omega
    rw [e] at ht
    rw [binom, bs_next, ht, ch_self, Nat.one_mul]
    have e2 : 1 + p * t + a ^ p = (1 + a ^ p) + p * t := by omega
    rw [e2, Nat.add_mul_mod_self_left, Nat.add_mod, ih, ← Nat.add_mod, Nat.add_comm]

theorem flt {p : Nat} (hp : Pr p) (a : Nat) (ha : a % p ≠ 0) : a ^ (p - 1) % p = 1 := by
  have h2 := hp.1
  have e : p - 1 + 1 = p := by omega
  have h := fermat hp a
  have hpos : 0 < a := by
    rcases Nat.eq_zero_or_pos a with h0 | h0
    · subst h0; simp at ha
    · exact h0
  have hone : 1 ≤ a ^ (p - 1) := Nat.one_le_pow _ _ hpos
  have hd : p ∣ a * (a ^ (p - 1) - 1) := by
    have := Nat.sub_mod_eq_zero_of_mod_eq h
    have e3 : a ^ p - a = a * (a ^ (p - 1) - 1) := by
      rw [Nat.mul_sub, Nat.mul_one]
      have : a ^ p = a * a ^ (p - 1) := by
        conv => lhs; rw [← e]
        rw [Nat.pow_succ, Nat.mul_comm]
      rw [this]
    rw [e3] at this
    exact Nat.dvd_of_mod_eq_zero this
  have hnd : ¬ p ∣ a := fun hh => ha (Nat.mod_eq_zero_of_dvd hh)
  obtain ⟨t, ht⟩ := euclid hp hd hnd
  have : a ^ (p - 1) = 1 + p * t := by omega
  rw [this, Nat.add_mul_mod_self_left, Nat.mod_eq_of_lt (by omega)]

/-! ### Powers that are 1 -/
theorem pow_gcd {b p : Nat} (hp : 2 ≤ p) (m n : Nat) : b ^ m % p = 1 → b ^ n % p = 1 → b ^ Nat.gcd m n % p = 1 := by
  induction m, n using Nat.gcd.induction with
  | H0 n => intro _ h; rw [Nat.gcd_zero_left]; exact h
  | H1 m n hm ih =>
    intro h1 h2
    rw [Nat.gcd_rec]
    refine ih ?_ h1
    have e : b ^ n = (b ^ m) ^ (n / m) * b ^ (n % m) := by
      rw [← Nat.pow_mul, ← Nat.pow_add, Nat.div_add_mod]
    rw [e, Nat.mul_mod, Nat.pow_mod, h1, Nat.one_pow, Nat.mod_eq_of_lt (a := 1) (by omega), Nat.one_mul, Nat.mod_mod] at h2
    exact h2

theorem has_prime (n : Nat) : 2 ≤ n → ∃ p, Pr p ∧ p ∣ n := by
  induction n using Nat.strongRecOn with
  | ind n ih =>
    intro hn
    by_cases h : ∃ m, m ∣ n ∧ 2 ≤ m ∧ m < n
    · obtain ⟨m, h1, h2, h3⟩ := h
      obtain ⟨p, hp, hd⟩ := ih m h3 h2
      exact ⟨p, hp, Nat.dvd_trans hd h1⟩
    · refine ⟨n, ⟨hn, fun m hm => ?_⟩, Nat.dvd_refl n⟩
      have hle := Nat.le_of_dvd (by omega) hm
      have hpos := Nat.pos_of_dvd_of_pos hm (by omega)
      by_cases h1 : m = 1
      · exact Or.inl h1
      · by_cases h2 : m = n
        · exact Or.inr h2
        · exact absurd ⟨m, hm, by omega, by omega⟩ h

theorem divides {P p b q : Nat} (hp : Pr p) (hP : p ∣ P) (hq : ∀ m, m < q + 1 → q % m = 0 → m = 1 ∨ m = q) (hq0 : 0 < q)
    (h1 : b ^ q % P = 1) (h2 : Nat.gcd (b - 1) P = 1) : q ∣ p - 1 := by
  have hp2 := hp.1
  have hbq : b ^ q % p = 1 := by
    rw [← Nat.mod_mod_of_dvd _ hP, h1]; exact Nat.mod_eq_of_lt (by omega)
  have hb : b % p ≠ 0 := by
    intro h
    rw [Nat.pow_mod, h, Nat.zero_pow hq0, Nat.zero_mod] at hbq
    omega
  have hf := flt hp b hb
  have hg := pow_gcd hp2 q (p - 1) hbq hf
  have hgd : Nat.gcd q (p - 1) ∣ q := Nat.gcd_dvd_left _ _
  rcases hq (Nat.gcd q (p - 1)) (by have := Nat.le_of_dvd hq0 hgd; omega) (Nat.mod_eq_zero_of_dvd hgd) with h | h
  · exfalso
    rw [h, Nat.pow_one] at hg
    have hd : p ∣ b - 1 := by
      have := Nat.sub_mod_eq_zero_of_mod_eq (m := b) (n := 1) (k := p) (by rw [hg]; exact (Nat.mod_eq_of_lt (by omega)).symm)
      exact Nat.dvd_of_mod_eq_zero this
    have := Nat.dvd_gcd hd hP
    rw [h2] at this
    have := Nat.le_of_dvd (by omega) this
    omega
  · have := Nat.gcd_dvd_right q (p - 1)
    rw [h] at this
    exact this

theorem d61 : ∀ m, m < 61 + 1 → 61 % m = 0 → m = 1 ∨ m = 61 := by decide +kernel
theorem d151 : ∀ m, m < 151 + 1 → 151 % m = 0 → m = 1 ∨ m = 151 := by decide +kernel
theorem d331 : ∀ m, m < 331 + 1 → 331 % m = 0 → m = 1 ∨ m = 331 := by decide +kernel
theorem d1321 : ∀ m, m < 1321 + 1 → 1321 % m = 0 → m = 1 ∨ m = 1321 := by decide +kernel
theorem b61 : 2048 ^ 61 % 2305843009213693951 = 1 := by decide +kernel
theorem b151 : 2211238755008147949 ^ 151 % 2305843009213693951 = 1 := by decide +kernel
theorem b331 : 1491285494954315879 ^ 331 % 2305843009213693951 = 1 := by decide +kernel
theorem b1321 : 234060095121088422 ^ 1321 % 2305843009213693951 = 1 := by decide +kernel
theorem g61 : Nat.gcd (2048 - 1) 2305843009213693951 = 1 := by decide +kernel
theorem g151 : Nat.gcd (2211238755008147949 - 1) 2305843009213693951 = 1 := by decide +kernel
theorem g331 : Nat.gcd (1491285494954315879 - 1) 2305843009213693951 = 1 := by decide +kernel
theorem g1321 : Nat.gcd (234060095121088422 - 1) 2305843009213693951 = 1 := by decide +kernel

theorem p61 {p : Nat} (hp : Pr p) (hP : p ∣ 2305843009213693951) : 61 ∣ p - 1 := divides hp hP d61 (Nat.succ_pos _) b61 g61
theorem p151 {p : Nat} (hp : Pr p) (hP : p ∣ 2305843009213693951) : 151 ∣ p - 1 := divides hp hP d151 (Nat.succ_pos _) b151 g151
theorem p331 {p : Nat} (hp : Pr p) (hP : p ∣ 2305843009213693951) : 331 ∣ p - 1 := divides (P := 2305843009213693951) (b := 1491285494954315879) (q := 331) hp hP d331 (Nat.succ_pos _) b331 g331
theorem p1321 {p : Nat} (hp : Pr p) (hP : p ∣ 2305843009213693951) : 1321 ∣ p - 1 := divides (P := 2305843009213693951) (b := 234060095121088422) (q := 1321) hp hP d1321 (Nat.succ_pos _) b1321 g1321
theorem all_four {n : Nat} (hn : 0 < n) (h1 : 61 ∣ n) (h2 : 151 ∣ n) (h3 : 331 ∣ n) (h4 : 1321 ∣ n) : 4027518961 ≤ n := by
  have h5 := Nat.Coprime.mul_dvd_of_dvd_of_dvd (m := 61) (n := 151) (by decide +kernel) h1 h2
  have h6 := Nat.Coprime.mul_dvd_of_dvd_of_dvd (m := 61 * 151) (n := 331) (by decide +kernel) h5 h3
  have h7 := Nat.Coprime.mul_dvd_of_dvd_of_dvd (m := 61 * 151 * 331) (n := 1321) (by decide +kernel) h6 h4
  exact Nat.le_of_dvd hn h7
theorem great {p : Nat} (hp : Pr p) (hP : p ∣ 2305843009213693951) : 4027518961 < p := by
  have hp2 := hp.1
  have h := all_four (n := p - 1) (by clear hP; omega) (p61 hp hP) (p151 hp hP) (p331 hp hP) (p1321 hp hP)
  clear hP
  omega

/-- 2^61 - 1 is a prime. -/
theorem prime : Pr 2305843009213693951 := by
  refine ⟨by omega, fun m hm => ?_⟩
  obtain ⟨k, hk⟩ := hm
  by_cases h1 : m = 1
  · exact Or.inl h1
  by_cases h2 : k = 1
  · exact Or.inr (by rw [h2, Nat.mul_one] at hk; exact hk.symm)
  exfalso
  have hm0 : 0 < m := by
    rcases Nat.eq_zero_or_pos m with h | h
    · rw [h, Nat.zero_mul] at hk; omega
    · exact h
  have hk0 : 0 < k := by
    rcases Nat.eq_zero_or_pos k with h | h
    · rw [h, Nat.mul_zero] at hk; omega
    · exact h
  obtain ⟨p, hp, hpd⟩ := has_prime m (by omega)
  obtain ⟨q, hq, hqd⟩ := has_prime k (by omega)
  have g1 := great hp (Nat.dvd_trans hpd ⟨k, hk⟩)
  have g2 := great hq (Nat.dvd_trans hqd ⟨m, by rw [Nat.mul_comm]; exact hk⟩)
  have l1 := Nat.le_of_dvd hm0 hpd
  have l2 := Nat.le_of_dvd hk0 hqd
  have := Nat.mul_le_mul (Nat.le_trans (Nat.le_of_lt g1) l1) (Nat.le_trans (Nat.le_of_lt g2) l2)
  rw [← hk] at this
  omega

end Go.Proofs.Ytihealembikkiaa.Fm
