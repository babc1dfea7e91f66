
/-
  Keys as numbers, as plain functions: the bytes of a key, its words, its sum; and what holds of them: nothing of the program is in this text.
-/
import Derived.Test.YtihealembikkiaaNum
import Derived.Lib.TrailingZeros
namespace Go.Proofs.Ytihealembikkiaa.Fm

/-- The byte of a key at a place; 0 behind its end. -/
def byteN (s : ByteArray) (i : Nat) : Nat := if h : i < s.size then (s[i]'h).toNat else 0
/-- What j bytes from a place on make, the first one the highest. -/
def wpart (s : ByteArray) (st : Nat) : Nat → Nat
  | 0 => 0
  | j + 1 => wpart s st j * 256 + byteN s (st + j)
def wordF (s : ByteArray) (st : Nat) : Int := (wpart s st 4 : Nat)
/-- What is made of k words, begun with n. -/
def runF (f : Int) (s : ByteArray) (n : Int) : Nat → Int
  | 0 => n
  | k + 1 => addF (mulF (runF f s n k) f) (wordF s (4 * k) + 1)
def wordsN (s : ByteArray) : Nat := (s.size + 3) / 4
/-- What is raised to the power of 17. -/
def baseF (seed : Int) (s : ByteArray) : Int := mulF (runF (addF seed 2) s (oF s.size) (wordsN s)) (addF seed 2)
def sumF (seed : Int) (s : ByteArray) : Int := powF (baseF seed s) 17

theorem byteN_lt (s : ByteArray) (i : Nat) : byteN s i < 256 := by
  unfold byteN
  split
  · rename_i h
    have := (s[i]'h).toNat_lt
    omega
  · omega
theorem wpart_lt (s : ByteArray) (st : Nat) : ∀ j, wpart s st j < 256 ^ j
  | 0 => by simp [wpart]
  | j + 1 => by
    have h1 := wpart_lt s st j
    have h2 := byteN_lt s (st + j)
    rw [wpart, Nat.pow_succ]
    omega
theorem wordF_nn (s : ByteArray) (st : Nat) : 0 ≤ wordF s st := by unfold wordF; omega
theorem wordF_lt (s : ByteArray) (st : Nat) : wordF s st < 4294967296 := by
  have := wpart_lt s st 4
  unfold wordF
  omega
theorem runF_lt (f : Int) (s : ByteArray) (n : Int) (h0 : 0 ≤ n) (h1 : n < 2305843009213693951) : ∀ k, 0 ≤ runF f s n k ∧ runF f s n k < 2305843009213693951
  | 0 => ⟨h0, h1⟩
  | k + 1 => by rw [runF]; exact ⟨addF_nn _ _, addF_lt _ _⟩
theorem sumF_nn (a : Int) (s : ByteArray) : 0 ≤ sumF a s := powF_nn _ _
theorem sumF_lt (a : Int) (s : ByteArray) : sumF a s < 2305843009213693951 := powF_lt _ _
theorem sumF_U (a : Int) (s : ByteArray) : U (sumF a s) := powF_U _ _

/-! ### The seed modulo P alone -/
theorem addF_oF_left (a b : Int) : addF (oF a) b = addF a b := by unfold addF oF; omega
theorem sumF_oF (a : Int) (s : ByteArray) : sumF (oF a) s = sumF a s := by unfold sumF baseF; rw [addF_oF_left]

/-! ### A byte 0 behind -/
def snoc0 (s : ByteArray) : ByteArray := s ++ ⟨#[0]⟩
theorem snoc0_size (s : ByteArray) : (snoc0 s).size = s.size + 1 := by
  unfold snoc0
  rw [ByteArray.size_append]
  rfl
theorem byteN_snoc0 (s : ByteArray) (i : Nat) : byteN (snoc0 s) i = byteN s i := by
  unfold byteN
  have hz := snoc0_size s
  by_cases h : i < s.size
  · rw [dif_pos (show i < (snoc0 s).size by omega), dif_pos h]
    congr 1
    unfold snoc0
    exact ByteArray.getElem_append_left h
  · rw [dif_neg h]
    by_cases h2 : i < (snoc0 s).size
    · rw [dif_pos h2]
      have hi : i = s.size := by omega
      subst hi
      have : (snoc0 s)[s.size]'h2 = (⟨#[0]⟩ : ByteArray)[s.size - s.size]'(by rw [Nat.sub_self]; decide) := by
        unfold snoc0
        exact ByteArray.getElem_append_right (Nat.le_refl _)
      rw [this]
      simp
      rfl
    · rw [dif_neg h2]
theorem wpart_snoc0 (s : ByteArray) (st : Nat) : ∀ j, wpart (snoc0 s) st j = wpart s st j
  | 0 => rfl
  | j + 1 => by rw [wpart, wpart, wpart_snoc0 s st j, byteN_snoc0]
theorem runF_snoc0 (f : Int) (s : ByteArray) (n : Int) : ∀ k, runF f (snoc0 s) n k = runF f s n k
  | 0 => rfl
  | k + 1 => by rw [runF, runF, runF_snoc0 f s n k]; unfold wordF; rw [wpart_snoc0]
/-- Begun with a number more, what is made is more by a power. -/
theorem runF_more (f : Int) (s : ByteArray) (n m : Int) : ∀ k, oF (runF f s (addF n m) k - runF f s n k) = mulF m (powF f k)
  | 0 => by unfold runF mulF addF oF; rw [show ((0 : Nat) : Int) = 0 from rfl, pow_zero_F]; omega
  | k + 1 => by
    have ih := runF_more f s n m k
    have e : ((k + 1 : Nat) : Int) = (k : Int) + 1 := by omega
    rw [runF, runF, e, pow_succ_F f k (by omega), mul_assoc_F, ← ih]
    generalize runF f s (addF n m) k = x
    generalize runF f s n k = y
    generalize wordF s (4 * k) + 1 = z
    unfold oF addF mulF
    rw [Int.mul_emod ((x - y) % _) f, Int.emod_emod, ← Int.mul_emod, Int.sub_mul]
    omega

/-! ### The power of 17 tells numbers apart -/
theorem pow_mul_F (a m n : Int) (hm : 0 ≤ m) (hn : 0 ≤ n) : powF (powF a m) n = powF a (m * n) := by
  obtain ⟨M, rfl⟩ := nat_of hm
  obtain ⟨K, rfl⟩ := nat_of hn
  have e : powF (powF a M) K = powF (a ^ M) K := by
    have h1 : powF a M = oF (a ^ M) := by unfold powF oF; rfl
    rw [h1, pow_oF]
  rw [e]
  unfold powF
  rw [← Int.natCast_mul, Int.toNat_natCast, Int.toNat_natCast, Int.pow_mul]
theorem fermat_more (a : Int) (ha : 0 ≤ a) (k : Nat) : powF a (2305843009213693950 * k + 1) = oF a := by
  by_cases h : oF a = 0
  · rw [fermat_zero a _ h (by omega), h]
  · rw [pow_succ_F a _ (by omega), ← pow_mul_F a _ _ (by omega) (by omega), fermat_F a ha h]
    have : powF 1 k = 1 := by unfold powF; rw [Int.one_pow]; rfl
    rw [this]
    unfold mulF oF
    rw [Int.one_mul]
theorem pow17 (a b : Int) (ha : 0 ≤ a) (hb : 0 ≤ b) (h : powF a 17 = powF b 17) : oF a = oF b := by
  have e : (17 : Int) * 1763291712928118903 = 2305843009213693950 * (13 : Nat) + 1 := by decide
  have h1 := fermat_more a ha 13
  have h2 := fermat_more b hb 13
  rw [← e, ← pow_mul_F _ _ _ (by omega) (by omega)] at h1 h2
  rw [← h1, ← h2, h]
/-- A key with a byte 0 behind, that has the same words, has another sum, unless the seed and 2 is 0. -/
theorem apart (seed : Int) (s : ByteArray) (h4 : s.size % 4 ≠ 0) : sumF seed s = sumF seed (snoc0 s) ↔ addF seed 2 = 0 := by
  have hf0 := addF_nn seed 2
  have hf1 := addF_lt seed 2
  have hw : wordsN (snoc0 s) = wordsN s := by unfold wordsN; rw [snoc0_size]; omega
  have hn : oF ((s.size + 1 : Nat) : Int) = addF (oF s.size) 1 := by unfold oF addF; omega
  unfold sumF
  constructor
  · intro h
    have h1 := pow17 _ _ (mulF_nn _ _) (mulF_nn _ _) h
    unfold baseF at h1
    rw [hw, snoc0_size, hn, runF_snoc0] at h1
    have m := runF_more (addF seed 2) s (oF s.size) 1 (wordsN s)
    generalize hf : addF seed 2 = f at *
    generalize runF f s (addF (oF s.size) 1) (wordsN s) = x at *
    generalize runF f s (oF s.size) (wordsN s) = y at *
    have h2 : oF ((x - y) * f) = 0 := by
      unfold mulF oF at h1
      unfold oF
      rw [Int.sub_mul]
      omega
    have h3 : mulF (powF f (wordsN s)) f = 0 := by
      have q : mulF 1 (powF f (wordsN s)) = powF f (wordsN s) := by
        have := powF_lt f (wordsN s)
        have := powF_nn f (wordsN s)
        unfold mulF; omega
      rw [q] at m
      rw [← m]
      unfold mulF oF
      unfold oF at h2
      rw [Int.mul_emod ((x - y) % _) f, Int.emod_emod, ← Int.mul_emod, h2]
    rw [← pow_succ_F f _ (by omega)] at h3
    by_cases hz : f = 0
    · exact hz
    · exfalso
      have hz' : oF f ≠ 0 := by unfold oF; omega
      have key : ∀ k : Nat, powF f k ≠ 0 := by
        intro k
        induction k with
        | zero => rw [show ((0 : Nat) : Int) = 0 from rfl, pow_zero_F]; omega
        | succ k ih =>
          intro hh
          rw [show ((k + 1 : Nat) : Int) = (k : Int) + 1 by omega, pow_succ_F f _ (by omega)] at hh
          rcases (zero_F _ _ (powF_nn _ _) hf0).1 hh with g | g
          · rw [oF_powF] at g; exact ih g
          · exact hz' g
      exact key (wordsN s + 1) (by rw [show ((wordsN s + 1 : Nat) : Int) = (wordsN s : Int) + 1 by omega]; exact h3)
  · intro h
    have z : ∀ x, mulF x (addF seed 2) = 0 := by intro x; rw [h]; unfold mulF; simp
    unfold baseF
    rw [z, z]

/-! ### The fixed answers -/
theorem sum_empty : sumF 0 ⟨#[]⟩ = 0 := by decide +kernel
theorem sum_nought : sumF 0 ⟨#[0]⟩ = 16926659444736 := by decide +kernel

/-! ### How many of the lowest bits are 0 -/
def ctzF (n : Int) : Int := (Lib.ctz 64 n.toNat : Nat)
theorem ctzF_nn (n : Int) : 0 ≤ ctzF n := by unfold ctzF; omega
theorem ctzF_le (n : Int) (h0 : n ≠ 0) (h : U n) : ctzF n < 64 := by
  obtain ⟨hn, hn'⟩ := h
  have := (Lib.lowest_bit 64 n.toNat (by omega) (by omega)).2
  unfold ctzF
  omega

/-! ### Cells, signs, levels -/
def cellF (a : Int) (s : ByteArray) (n : Int) : Int := if n < 1 then 0 else sumF a s % n
def signF (a : Int) (s : ByteArray) : Int := if sumF a s % 2 = 1 then 1 else -1
def levelF (a : Int) (s : ByteArray) (m : Int) : Int := if sumF a s = 0 then max m 0 else min (ctzF (sumF a s)) (max m 0)
theorem cellF_nn (a : Int) (s : ByteArray) (n : Int) : 0 ≤ cellF a s n := by
  unfold cellF
  split
  · omega
  · exact Int.emod_nonneg _ (by omega)
theorem cellF_lt (a : Int) (s : ByteArray) (n : Int) (h : 0 < n) : cellF a s n < n := by
  unfold cellF
  rw [if_neg (by omega)]
  exact Int.emod_lt_of_pos _ h
theorem cellF_none (a : Int) (s : ByteArray) (n : Int) (h : n < 1) : cellF a s n = 0 := by unfold cellF; rw [if_pos h]
theorem signF_is (a : Int) (s : ByteArray) : signF a s = 1 ∨ signF a s = -1 := by unfold signF; split <;> simp
theorem levelF_nn (a : Int) (s : ByteArray) (m : Int) : 0 ≤ levelF a s m := by
  have := ctzF_nn (sumF a s)
  unfold levelF
  split <;> omega
theorem levelF_le (a : Int) (s : ByteArray) (m : Int) : levelF a s m ≤ max m 0 := by
  unfold levelF
  split <;> omega
theorem levelF_min (a : Int) (s : ByteArray) (m n : Int) (h0 : 0 ≤ m) (h : m ≤ n) : levelF a s m = min (levelF a s n) m := by
  have := ctzF_nn (sumF a s)
  unfold levelF
  split <;> omega
theorem sign_empty : signF 0 ⟨#[]⟩ = -1 := by unfold signF; rw [sum_empty]; rfl
end Go.Proofs.Ytihealembikkiaa.Fm
