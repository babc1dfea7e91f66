
/-
  Numbers in bytes, and the Internet's sum, on lists of bytes: plain mathematics, nothing of the program is in this text.
-/
import GoSem.Op.String
namespace Go.Proofs.Ytihealembikkiaa.Oc

/-! ### Numbers in bytes, the highest first -/
def numL (l : List UInt8) : Nat := l.foldl (fun n c => 256 * n + c.toNat) 0
def bytesL (n : Nat) : Nat → List UInt8
  | 0 => []
  | k + 1 => bytesL (n / 256) k ++ [UInt8.ofNat (n % 256)]
theorem foldl_num (l : List UInt8) : ∀ n : Nat, l.foldl (fun n c => 256 * n + c.toNat) n = n * 256 ^ l.length + numL l := by
  induction l with
  | nil => intro n; simp [numL]
  | cons c l ih =>
    intro n
    rw [numL, List.foldl_cons, List.foldl_cons, ih, ih, List.length_cons, Nat.pow_succ]
    rw [Nat.add_mul, Nat.add_mul, Nat.mul_zero, Nat.zero_mul, Nat.zero_add]
    have e : 256 * n * 256 ^ l.length = n * (256 ^ l.length * 256) := by rw [Nat.mul_comm 256 n, Nat.mul_assoc, Nat.mul_comm 256]
    omega
theorem numL_nil : numL [] = 0 := rfl
theorem numL_append (a b : List UInt8) : numL (a ++ b) = numL a * 256 ^ b.length + numL b := by
  rw [numL, List.foldl_append, foldl_num]; rfl
theorem numL_snoc (a : List UInt8) (c : UInt8) : numL (a ++ [c]) = 256 * numL a + c.toNat := by
  rw [numL_append]; simp [numL]; omega
theorem numL_cons (c : UInt8) (l : List UInt8) : numL (c :: l) = c.toNat * 256 ^ l.length + numL l := by
  have := numL_append [c] l
  simpa [numL] using this
theorem numL_lt (l : List UInt8) : numL l < 256 ^ l.length := by
  induction l with
  | nil => decide
  | cons c l ih =>
    rw [numL_cons, List.length_cons, Nat.pow_succ]
    have hc := c.toNat_lt
    have : c.toNat * 256 ^ l.length ≤ 255 * 256 ^ l.length := Nat.mul_le_mul_right _ (by omega)
    omega
theorem bytesL_len (n k : Nat) : (bytesL n k).length = k := by
  induction k generalizing n with
  | zero => rfl
  | succ k ih => simp [bytesL, ih]
theorem num_bytes (n k : Nat) : numL (bytesL n k) = n % 256 ^ k := by
  induction k generalizing n with
  | zero => simp [bytesL, numL, Nat.mod_one]
  | succ k ih =>
    rw [bytesL, numL_snoc, ih, UInt8.toNat_ofNat_of_lt' (by show n % 256 < 256; omega), Nat.pow_succ, Nat.mul_comm (256 ^ k), Nat.mod_mul]
    omega
theorem bytes_num (l : List UInt8) : bytesL (numL l) l.length = l := by
  generalize hk : l.length = k
  induction k generalizing l with
  | zero => simp [List.length_eq_zero_iff.1 hk, bytesL]
  | succ k ih =>
    obtain ⟨a, c, rfl⟩ : ∃ a c, l = a ++ [c] := by
      have hne : l ≠ [] := fun e => by rw [e] at hk; cases hk
      exact ⟨l.dropLast, l.getLast hne, (List.dropLast_concat_getLast hne).symm⟩
    have ha : a.length = k := by simpa using hk
    have hc := c.toNat_lt
    rw [numL_snoc, bytesL, show (256 * numL a + c.toNat) / 256 = numL a by omega, show (256 * numL a + c.toNat) % 256 = c.toNat by omega, ih a ha, UInt8.ofNat_toNat]
theorem num_inj {a b : List UInt8} (h : a.length = b.length) : a = b ↔ numL a = numL b := by
  constructor
  · intro e; rw [e]
  · intro e
    have ha := bytes_num a
    rw [e, h, bytes_num b] at ha
    exact ha.symm
theorem less_num : ∀ {a b : List UInt8}, a.length = b.length → Op.bytesLess a b = decide (numL a < numL b)
  | [], [], _ => by simp [Op.bytesLess]
  | x :: a, y :: b, h => by
    have h' : a.length = b.length := by simpa using h
    have ih := less_num h'
    have la := numL_lt a
    have lb := numL_lt b
    rw [← h'] at lb
    rw [numL_cons, numL_cons, ← h']
    generalize 256 ^ a.length = p at la lb
    rw [Op.bytesLess, ih]
    have hxy : (x < y) = (x.toNat < y.toNat) := rfl
    by_cases h1 : x.toNat < y.toNat
    · have m : (x.toNat + 1) * p ≤ y.toNat * p := Nat.mul_le_mul_right _ h1
      rw [Nat.add_mul, Nat.one_mul] at m
      have l1 : x.toNat * p + numL a < y.toNat * p + numL b := by omega
      simp [hxy, h1, l1]
    · by_cases h2 : x = y
      · subst h2
        by_cases h3 : numL a < numL b
        · have l1 : x.toNat * p + numL a < x.toNat * p + numL b := by omega
          simp [h3, l1]
        · have l1 : ¬ x.toNat * p + numL a < x.toNat * p + numL b := by omega
          simp [h3, l1]
      · have h4 : y.toNat < x.toNat := by
          have : x.toNat ≠ y.toNat := fun e => h2 (UInt8.toNat_inj.1 e)
          omega
        have m : (y.toNat + 1) * p ≤ x.toNat * p := Nat.mul_le_mul_right _ h4
        rw [Nat.add_mul, Nat.one_mul] at m
        have l1 : ¬ x.toNat * p + numL a < y.toNat * p + numL b := by omega
        simp [hxy, h1, h2, l1]

/-! ### The Internet's sum -/
/-- The sum of pairs; a last one alone with 0 behind. -/
def pairs : List UInt8 → Nat
  | [] => 0
  | [a] => 256 * a.toNat
  | a :: b :: l => 256 * a.toNat + b.toNat + pairs l
theorem pairs_append : ∀ (a b : List UInt8), a.length % 2 = 0 → pairs (a ++ b) = pairs a + pairs b
  | [], b, _ => by simp [pairs]
  | [x], b, h => by simp at h
  | x :: y :: a, b, h => by
    have ih := pairs_append a b (by simp only [List.length_cons] at h; omega)
    simp only [List.cons_append, pairs, ih]
    omega
/-- What is left when what goes over 2^16 - 1 is added again. -/
def wrapS (t : Nat) : Nat := if t = 0 then 0 else (t - 1) % 65535 + 1
theorem wrapS_le (t : Nat) : wrapS t ≤ 65535 := by unfold wrapS; split <;> omega
theorem wrapS_small {t : Nat} (h : t ≤ 65535) : wrapS t = t := by unfold wrapS; split <;> omega
theorem wrapS_fold (t : Nat) (h : 65535 < t) : wrapS (t % 65536 + t / 65536) = wrapS t := by
  unfold wrapS
  rw [if_neg (by omega), if_neg (by omega)]
  omega
theorem wrapS_over (t : Nat) (h : 65535 < t) : wrapS (t - 65535) = wrapS t := by
  unfold wrapS
  rw [if_neg (by omega), if_neg (by omega)]
  omega
theorem wrapS_add (t k : Nat) : wrapS (wrapS t + k) = wrapS (t + k) := by
  unfold wrapS
  split
  · next e => rw [e]
  · rw [if_neg (by omega), if_neg (by omega)]; omega
def sumL (l : List UInt8) : Nat := 65535 - wrapS (pairs l)
theorem sumL_le (l : List UInt8) : sumL l ≤ 65535 := by unfold sumL; omega
theorem bytes_two (n : Nat) : bytesL n 2 = [UInt8.ofNat (n / 256 % 256), UInt8.ofNat (n % 256)] := by simp [bytesL]
theorem sum_nought (l : List UInt8) (h : l.length % 2 = 0) : sumL (l ++ bytesL (sumL l) 2) = 0 := by
  have hs := sumL_le l
  have e : pairs (bytesL (sumL l) 2) = sumL l := by
    rw [bytes_two]
    simp only [pairs]
    rw [UInt8.toNat_ofNat_of_lt' (by show sumL l / 256 % 256 < 256; omega), UInt8.toNat_ofNat_of_lt' (by show sumL l % 256 < 256; omega)]
    omega
  have key : wrapS (pairs l + sumL l) = 65535 := by
    unfold sumL wrapS
    split <;> split <;> omega
  have e2 : sumL (l ++ bytesL (sumL l) 2) = 65535 - wrapS (pairs (l ++ bytesL (sumL l) 2)) := rfl
  rw [e2, pairs_append l _ h, e, key]
theorem sum_turn (a b : List UInt8) (ha : a.length % 2 = 0) (hb : b.length % 2 = 0) : sumL (a ++ b) = sumL (b ++ a) := by
  unfold sumL; rw [pairs_append a b ha, pairs_append b a hb, Nat.add_comm]

/-! ### Strings as lists of bytes -/
def bsL (l : List UInt8) : ByteArray := ⟨l.toArray⟩
theorem bsL_of (s : ByteArray) : s = bsL s.data.toList := by cases s; simp [bsL]
theorem bsL_size (l : List UInt8) : (bsL l).size = l.length := by simp [bsL, ByteArray.size]
theorem bsL_append (a b : List UInt8) : bsL a ++ bsL b = bsL (a ++ b) := by
  apply ByteArray.ext
  simp [bsL, ByteArray.data_append]
theorem bsL_extract (l : List UInt8) (a b : Nat) : (bsL l).extract a b = bsL ((l.drop a).take (b - a)) := by
  apply ByteArray.ext
  simp [bsL, ByteArray.data_extract]
theorem bsL_take (l : List UInt8) (k : Nat) : (bsL l).extract 0 k = bsL (l.take k) := by rw [bsL_extract]; simp
theorem bsL_drop (l : List UInt8) (k : Nat) : (bsL l).extract k (bsL l).size = bsL (l.drop k) := by
  rw [bsL_extract, bsL_size, List.take_of_length_le]
  simp
/-- The byte at a place, 0 behind the end. -/
def atL (l : List UInt8) (i : Nat) : Nat := (l[i]?.getD 0).toNat
theorem atL_lt (l : List UInt8) (i : Nat) : atL l i < 256 := (l[i]?.getD 0).toNat_lt
theorem atL_end (l : List UInt8) (i : Nat) (h : l.length ≤ i) : atL l i = 0 := by simp [atL, List.getElem?_eq_none h]
theorem atL_get (l : List UInt8) (i : Nat) (h : i < l.length) : (l[i]'h).toNat = atL l i := by simp [atL, List.getElem?_eq_getElem h]
theorem bsL_at (l : List UInt8) (i : Nat) (h : i < (bsL l).size) : ((bsL l)[i]'h).toNat = atL l i := by
  have h' : i < l.length := by rw [bsL_size] at h; exact h
  rw [← atL_get l i h']
  rfl
theorem take_at (l : List UInt8) (i : Nat) (h : i < l.length) : l.take (i + 1) = l.take i ++ [l[i]'h] := by simp
theorem num_take (l : List UInt8) (i : Nat) (h : i < l.length) : numL (l.take (i + 1)) = 256 * numL (l.take i) + atL l i := by
  rw [take_at l i h, numL_snoc, atL_get]
theorem num_take_lt (l : List UInt8) (i : Nat) : numL (l.take i) < 256 ^ i := by
  have h := numL_lt (l.take i)
  have h2 : 256 ^ (l.take i).length ≤ 256 ^ i := Nat.pow_le_pow_right (by omega) (by simp; omega)
  omega
/-- The pair at a place. -/
def pairL (l : List UInt8) (i : Nat) : Nat := 256 * atL l i + atL l (i + 1)
theorem pairL_lt (l : List UInt8) (i : Nat) : pairL l i < 65536 := by
  have h1 := atL_lt l i
  have h2 := atL_lt l (i + 1)
  unfold pairL
  omega
theorem pairs_take (l : List UInt8) (i : Nat) (h : i < l.length) (he : i % 2 = 0) : pairs (l.take (i + 2)) = pairs (l.take i) + pairL l i := by
  have hl : (l.take i).length = i := by simp; omega
  by_cases h2 : i + 1 < l.length
  · rw [show i + 2 = i + 1 + 1 from rfl, take_at l (i + 1) h2, take_at l i h, List.append_assoc, pairs_append _ _ (by rw [hl]; exact he)]
    simp only [List.cons_append, List.nil_append, pairs, pairL, ← atL_get l i h, ← atL_get l (i + 1) h2]
    omega
  · rw [List.take_of_length_le (show l.length ≤ i + 2 by omega)]
    have e : l = l.take i ++ [l[i]'h] := by
      rw [← take_at l i h, List.take_of_length_le (by omega)]
    have e2 : pairs l = pairs (l.take i ++ [l[i]'h]) := by rw [← e]
    rw [e2, pairs_append _ _ (by rw [hl]; exact he)]
    simp only [pairs, pairL, ← atL_get l i h, atL_end l (i + 1) (by omega)]
    omega
theorem wrap_step {S p : Nat} (hS : S ≤ 65535) (hp : p < 65536) : (S + p) % 65536 + (S + p) / 65536 = wrapS (S + p) := by
  unfold wrapS
  split <;> omega
theorem bytes_at (n k c : Nat) (h : c < k) : atL (bytesL n k) c = n / 256 ^ (k - 1 - c) % 256 := by
  induction k generalizing n with
  | zero => omega
  | succ k ih =>
    by_cases e : c = k
    · subst e
      have hl : (bytesL (n / 256) c).length = c := bytesL_len _ _
      have : atL (bytesL n (c + 1)) c = (UInt8.ofNat (n % 256)).toNat := by
        unfold atL
        rw [bytesL, List.getElem?_append_right (by omega), hl]
        simp
      rw [this, UInt8.toNat_ofNat_of_lt' (by show n % 256 < 256; omega), show c + 1 - 1 - c = 0 by omega]
      simp
    · have hl : (bytesL (n / 256) k).length = k := bytesL_len _ _
      have : atL (bytesL n (k + 1)) c = atL (bytesL (n / 256) k) c := by
        unfold atL
        rw [bytesL, List.getElem?_append_left (by omega)]
      rw [this, ih (n / 256) (by omega), Nat.div_div_eq_div_mul, show k + 1 - 1 - c = (k - 1 - c) + 1 by omega, Nat.pow_succ, Nat.mul_comm 256]
theorem bytes_front (n i : Nat) : UInt8.ofNat (n / 256 ^ i % 256) :: bytesL n i = bytesL n (i + 1) := by
  induction i generalizing n with
  | zero => simp [bytesL]
  | succ i ih =>
    have e : bytesL n (i + 1 + 1) = bytesL (n / 256) (i + 1) ++ [UInt8.ofNat (n % 256)] := rfl
    rw [e, ← ih (n / 256), Nat.div_div_eq_div_mul, show 256 * 256 ^ i = 256 ^ (i + 1) by rw [Nat.pow_succ, Nat.mul_comm]]
    rfl
theorem div_pow_succ (n i : Nat) : n / 256 ^ (i + 1) = n / 256 ^ i / 256 := by rw [Nat.pow_succ, Nat.div_div_eq_div_mul]

end Go.Proofs.Ytihealembikkiaa.Oc
