
/-
  Maps of bits as plain functions: the place of a thing, bits that are set, the estimate of a row and of rows; and what holds of them: nothing of the program is in this text.
-/
import Derived.Test.YtkfhofgmjhnknaaDoorBlmNum
namespace Go.Proofs.YtkfhofgmjhnknaaDoor.Bm
open Fm Bl
set_option linter.unusedVariables false

/-- May a map have so many rows of so many bits? -/
def fitsM (r c : Int) : Bool := decide (1 ≤ r ∧ r ≤ 16 ∧ 1 ≤ c ∧ c ≤ 256)
theorem fitsM_iff (r c : Int) : fitsM r c = true ↔ (1 ≤ r ∧ r ≤ 16 ∧ 1 ≤ c ∧ c ≤ 256) := by unfold fitsM; exact decide_eq_true_iff
/-- Is a map of any rows right? -/
def RightM (R : Nat) (L : Nat → Nat) : Prop := 1 ≤ R ∧ R ≤ 16 ∧ 1 ≤ L 0 ∧ L 0 ≤ 256 ∧ ∀ i, i < R → L i = L 0
/-- Is a map of rows of one length right? -/
def OkM (R n : Nat) : Prop := 1 ≤ R ∧ R ≤ 16 ∧ 1 ≤ n ∧ n ≤ 256
theorem RightM.ok {R : Nat} {L : Nat → Nat} (h : RightM R L) : OkM R (L 0) := ⟨h.1, h.2.1, h.2.2.1, h.2.2.2.1⟩
theorem OkM.right {R n : Nat} (h : OkM R n) : RightM R (fun _ => n) := ⟨h.1, h.2.1, h.2.2.1, h.2.2.2, fun _ _ => rfl⟩
theorem okM_fits {R n : Nat} (h : fitsM R n = true) : OkM R n := by
  rw [fitsM_iff] at h
  exact ⟨by omega, by omega, by omega, by omega⟩

/-- The row of a thing. -/
def lineN (S : Int) (s : ByteArray) (R : Nat) : Nat := (levelF (rowF S 0) s ((R : Int) - 1)).toNat
theorem lineN_eq (S : Int) (s : ByteArray) (R : Nat) : levelF (rowF S 0) s ((R : Int) - 1) = (lineN S s R : Int) := by
  have := levelF_nn (rowF S 0) s ((R : Int) - 1)
  unfold lineN
  omega
theorem lineN_lt (S : Int) (s : ByteArray) (R : Nat) (h : 1 ≤ R) : lineN S s R < R := by
  have := levelF_le (rowF S 0) s ((R : Int) - 1)
  have := levelF_nn (rowF S 0) s ((R : Int) - 1)
  unfold lineN
  omega
/-- The bit of a thing, in its row. -/
def bitN (S : Int) (s : ByteArray) (n : Nat) : Nat := placeN S s n 1
theorem bitN_eq (S : Int) (s : ByteArray) (n : Nat) (h : 1 ≤ n) : cellF (rowF S 1) s n = (bitN S s n : Int) := placeN_eq S s n 1 h
theorem bitN_lt (S : Int) (s : ByteArray) (n : Nat) (h : 1 ≤ n) : bitN S s n < n := placeN_lt S s n 1 h

/-- The bits with a thing more. -/
def addM (S : Int) (R n : Nat) (B : Nat → Nat → Bool) (s : ByteArray) : Nat → Nat → Bool := fun i j => if i = lineN S s R ∧ j = bitN S s n then true else B i j
theorem addM_true (S : Int) (R n : Nat) (B : Nat → Nat → Bool) (s : ByteArray) (i j : Nat) : addM S R n B s i j = true ↔ B i j = true ∨ (lineN S s R = i ∧ bitN S s n = j) := by
  unfold addM
  by_cases h : i = lineN S s R ∧ j = bitN S s n
  · rw [if_pos h]
    exact ⟨fun _ => Or.inr ⟨h.1.symm, h.2.symm⟩, fun _ => rfl⟩
  · rw [if_neg h]
    exact ⟨Or.inl, fun e => e.elim id fun e => absurd ⟨e.1.symm, e.2.symm⟩ h⟩
/-- Things come, one behind the other. -/
def addsM (S : Int) (R n : Nat) (B : Nat → Nat → Bool) (l : Nat → ByteArray) : Nat → Nat → Nat → Bool
  | 0 => B
  | k + 1 => addM S R n (addsM S R n B l k) (l k)
theorem addsM_true (S : Int) (R n : Nat) (B : Nat → Nat → Bool) (l : Nat → ByteArray) (i j : Nat) : ∀ k, addsM S R n B l k i j = true ↔ B i j = true ∨ ∃ t, t < k ∧ lineN S (l t) R = i ∧ bitN S (l t) n = j
  | 0 => by simp [addsM]
  | k + 1 => by
    rw [addsM, addM_true, addsM_true S R n B l i j k]
    constructor
    · rintro ((h | ⟨t, ht, h⟩) | h)
      · exact Or.inl h
      · exact Or.inr ⟨t, by omega, h⟩
      · exact Or.inr ⟨k, by omega, h⟩
    · rintro (h | ⟨t, ht, h⟩)
      · exact Or.inl (Or.inl h)
      · by_cases e : t = k
        · subst e; exact Or.inr h
        · exact Or.inl (Or.inr ⟨t, by omega, h⟩)
/-- The bits of both. -/
def mergeM (B C : Nat → Nat → Bool) : Nat → Nat → Bool := fun i j => B i j || C i j
theorem adds_turn (S : Int) (R n : Nat) (B : Nat → Nat → Bool) (l m : Nat → ByteArray) (a b i j : Nat) : addsM S R n (addsM S R n B l a) m b i j = addsM S R n (addsM S R n B m b) l a i j := by
  refine bool_ext ?_
  rw [addsM_true, addsM_true, addsM_true, addsM_true]
  constructor
  · rintro ((h | h) | h)
    · exact Or.inl (Or.inl h)
    · exact Or.inr h
    · exact Or.inl (Or.inr h)
  · rintro ((h | h) | h)
    · exact Or.inl (Or.inl h)
    · exact Or.inr h
    · exact Or.inl (Or.inr h)
theorem adds_merge (S : Int) (R n : Nat) (B : Nat → Nat → Bool) (l m : Nat → ByteArray) (a b i j : Nat) : addsM S R n (addsM S R n B l a) m b i j = mergeM (addsM S R n B l a) (addsM S R n B m b) i j := by
  refine bool_ext ?_
  unfold mergeM
  rw [Bool.or_eq_true, addsM_true, addsM_true, addsM_true]
  constructor
  · rintro ((h | h) | h)
    · exact Or.inl (Or.inl h)
    · exact Or.inl (Or.inr h)
    · exact Or.inr (Or.inr h)
  · rintro ((h | h) | (h | h))
    · exact Or.inl (Or.inl h)
    · exact Or.inl (Or.inr h)
    · exact Or.inl (Or.inl h)
    · exact Or.inr h
/-- What comes again turns nothing. -/
theorem adds_again (S : Int) (R n : Nat) (B : Nat → Nat → Bool) (l m : Nat → ByteArray) (a b i j : Nat) : addsM S R n (addsM S R n (addsM S R n B l a) m b) l a i j = addsM S R n (addsM S R n B l a) m b i j := by
  refine bool_ext ?_
  rw [addsM_true, addsM_true, addsM_true]
  constructor
  · rintro (h | h)
    · exact h
    · exact Or.inl (Or.inr h)
  · exact Or.inl
theorem adds_has {S : Int} {R n : Nat} {B : Nat → Nat → Bool} {l : Nat → ByteArray} {k t : Nat} (h : t < k) : addsM S R n B l k (lineN S (l t) R) (bitN S (l t) n) = true := (addsM_true _ _ _ _ _ _ _ _).2 (Or.inr ⟨t, h, rfl, rfl⟩)
theorem adds_more {S : Int} {R n : Nat} {B : Nat → Nat → Bool} {l : Nat → ByteArray} {k i j : Nat} (h : B i j = true) : addsM S R n B l k i j = true := (addsM_true _ _ _ _ _ _ _ _).2 (Or.inl h)

/-- How many bits of the first rows are set. -/
def cntM (n : Nat) (B : Nat → Nat → Bool) : Nat → Nat
  | 0 => 0
  | k + 1 => cntM n B k + cntB (B k) n
theorem cntM_le (n : Nat) (B : Nat → Nat → Bool) : ∀ k, cntM n B k ≤ k * n
  | 0 => by simp [cntM]
  | k + 1 => by
    have := cntM_le n B k
    have := cntB_le (B k) n
    rw [cntM, Nat.succ_mul]
    omega
theorem cntB_mono {B C : Nat → Bool} : ∀ k, (∀ i, i < k → B i = true → C i = true) → cntB B k ≤ cntB C k
  | 0, _ => Nat.le_refl _
  | k + 1, h => by
    have := cntB_mono k fun i hi => h i (by omega)
    have e := h k (by omega)
    rw [cntB, cntB]
    by_cases b : B k = true
    · rw [if_pos b, if_pos (e b)]; omega
    · rw [if_neg b]; omega
theorem cntB_pos {B : Nat → Bool} {i : Nat} (b : B i = true) : ∀ k, i < k → 1 ≤ cntB B k
  | 0, h => by omega
  | k + 1, h => by
    rw [cntB]
    by_cases e : i = k
    · subst e; rw [if_pos b]; omega
    · have := cntB_pos b k (by omega); omega
theorem cntB_add (S : Int) (R n : Nat) (B : Nat → Nat → Bool) (s : ByteArray) (i : Nat) : cntB (addM S R n B s i) n ≤ cntB (B i) n + (if i = lineN S s R then 1 else 0) := by
  by_cases e : i = lineN S s R
  · have h : addM S R n B s i = fun q => if q = bitN S s n then true else B i q := by
      funext q
      unfold addM
      by_cases e2 : q = bitN S s n
      · rw [if_pos ⟨e, e2⟩, if_pos e2]
      · rw [if_neg (fun h => e2 h.2), if_neg e2]
    rw [h, cntB_one, if_pos e]
    split <;> omega
  · rw [if_neg e]
    rw [cntB_congr (B := addM S R n B s i) (C := B i) n fun q _ => by unfold addM; rw [if_neg (fun h => e h.1)]]
    omega
theorem cntM_add (S : Int) (R n : Nat) (B : Nat → Nat → Bool) (s : ByteArray) : ∀ k, cntM n (addM S R n B s) k ≤ cntM n B k + (if lineN S s R < k then 1 else 0)
  | 0 => by simp [cntM]
  | k + 1 => by
    have h1 := cntM_add S R n B s k
    have h2 := cntB_add S R n B s k
    rw [cntM, cntM]
    by_cases e : k = lineN S s R
    · rw [if_pos e] at h2
      rw [if_neg (by omega)] at h1
      rw [if_pos (by omega)]
      omega
    · rw [if_neg e] at h2
      by_cases e2 : lineN S s R < k
      · rw [if_pos e2] at h1
        rw [if_pos (by omega)]
        omega
      · rw [if_neg e2] at h1
        rw [if_neg (by omega)]
        omega
theorem cntM_none {n : Nat} {B : Nat → Nat → Bool} : ∀ k, (∀ i, i < k → ∀ j, j < n → B i j = false) → cntM n B k = 0
  | 0, _ => rfl
  | k + 1, h => by rw [cntM, cntM_none k fun i hi => h i (by omega), cntB_none n fun j hj => h k (by omega) j hj]
theorem cntM_adds (S : Int) (R n : Nat) (l : Nat → ByteArray) : ∀ k, cntM n (addsM S R n (fun _ _ => false) l k) R ≤ k
  | 0 => Nat.le_of_eq (cntM_none (B := fun _ _ => false) R fun i _ j _ => rfl)
  | k + 1 => by
    have h1 := cntM_adds S R n l k
    have h2 := cntM_add S R n (addsM S R n (fun _ _ => false) l k) (l k) R
    rw [addsM]
    split at h2 <;> omega
theorem cntM_pos {n : Nat} {B : Nat → Nat → Bool} {i j : Nat} (b : B i j = true) (hj : j < n) : ∀ k, i < k → 1 ≤ cntM n B k
  | 0, h => by omega
  | k + 1, h => by
    rw [cntM]
    by_cases e : i = k
    · subst e; have := cntB_pos b n hj; omega
    · have := cntM_pos b hj k (by omega); omega

/-- The estimate of a row of n bits, c of which are set. -/
def estC (n : Nat) : Nat → Nat
  | 0 => 0
  | c + 1 => estC n c + n * 65536 / (n - c)
/-- The estimates of the first rows. -/
def estM (n : Nat) (B : Nat → Nat → Bool) : Nat → Nat
  | 0 => 0
  | k + 1 => estM n B k + estC n (cntB (B k) n)
theorem estC_mono (n c : Nat) : ∀ d, estC n c ≤ estC n (c + d)
  | 0 => Nat.le_refl _
  | d + 1 => by
    have := estC_mono n c d
    show estC n c ≤ estC n (c + d) + n * 65536 / (n - (c + d))
    exact Nat.le_trans this (Nat.le_add_right _ _)
theorem estC_up {n c d : Nat} (h : c ≤ d) : estC n c ≤ estC n d := by
  obtain ⟨e, rfl⟩ : ∃ e, d = c + e := ⟨d - c, by omega⟩
  exact estC_mono n c e
theorem estC_le (n : Nat) : ∀ c, estC n c ≤ c * (n * 65536)
  | 0 => by simp [estC]
  | c + 1 => by
    have := estC_le n c
    have := Nat.div_le_self (n * 65536) (n - c)
    rw [estC, Nat.succ_mul]
    omega
theorem estC_lt {n c : Nat} (hc : c ≤ n) (hn : n ≤ 256) : estC n c ≤ 4294967296 := by
  have h := estC_le n c
  have h1 : c * (n * 65536) ≤ 256 * (256 * 65536) := Nat.mul_le_mul (by omega) (by omega)
  omega
theorem estC_one {n c : Nat} (hn : 1 ≤ n) (hc : 1 ≤ c) : 65536 ≤ estC n c := by
  have h : estC n 1 ≤ estC n c := estC_up hc
  have e : estC n 1 = 65536 := by
    show 0 + n * 65536 / (n - 0) = 65536
    rw [Nat.sub_zero, Nat.zero_add, Nat.mul_comm, Nat.mul_div_cancel _ (by omega)]
  omega
theorem estM_lt (n : Nat) (B : Nat → Nat → Bool) (hn : n ≤ 256) : ∀ k, estM n B k ≤ k * 4294967296
  | 0 => by simp [estM]
  | k + 1 => by
    have := estM_lt n B hn k
    have := estC_lt (cntB_le (B k) n) hn
    rw [estM, Nat.succ_mul]
    omega
theorem estM_congr {n : Nat} {B C : Nat → Nat → Bool} : ∀ k, (∀ i, i < k → ∀ j, j < n → B i j = C i j) → estM n B k = estM n C k
  | 0, _ => rfl
  | k + 1, h => by rw [estM, estM, estM_congr k fun i hi => h i (by omega), cntB_congr n fun j hj => h k (by omega) j hj]
theorem estM_mono {n : Nat} {B C : Nat → Nat → Bool} : ∀ k, (∀ i, i < k → ∀ j, j < n → B i j = true → C i j = true) → estM n B k ≤ estM n C k
  | 0, _ => Nat.le_refl _
  | k + 1, h => by
    have h1 := estM_mono k fun i hi => h i (by omega)
    have h2 := estC_up (n := n) (cntB_mono n fun j hj => h k (by omega) j hj)
    rw [estM, estM]
    omega
theorem estM_none {n : Nat} {B : Nat → Nat → Bool} : ∀ k, (∀ i, i < k → ∀ j, j < n → B i j = false) → estM n B k = 0
  | 0, _ => rfl
  | k + 1, h => by rw [estM, estM_none k fun i hi => h i (by omega), cntB_none n fun j hj => h k (by omega) j hj]; rfl
theorem estM_pos {n : Nat} {B : Nat → Nat → Bool} {i j : Nat} (b : B i j = true) (hj : j < n) : ∀ k, i < k → 65536 ≤ estM n B k
  | 0, h => by omega
  | k + 1, h => by
    rw [estM]
    by_cases e : i = k
    · subst e
      have := estC_one (n := n) (by omega) (cntB_pos b n hj)
      omega
    · have := estM_pos b hj k (by omega); omega
theorem estM_add_le (S : Int) (R n : Nat) (B : Nat → Nat → Bool) (s : ByteArray) (k : Nat) : estM n B k ≤ estM n (addM S R n B s) k := estM_mono k fun i _ j _ h => (addM_true _ _ _ _ _ _ _).2 (Or.inl h)
theorem estM_add_pos (S : Int) {R n : Nat} (B : Nat → Nat → Bool) (s : ByteArray) (h : OkM R n) : 65536 ≤ estM n (addM S R n B s) R := estM_pos ((addM_true S R n B s (lineN S s R) (bitN S s n)).2 (Or.inr ⟨rfl, rfl⟩)) (bitN_lt S s n h.2.2.1) R (lineN_lt S s R h.1)
theorem estM_merge_left (B C : Nat → Nat → Bool) (n k : Nat) : estM n B k ≤ estM n (mergeM B C) k := estM_mono k fun i _ j _ h => by unfold mergeM; rw [h]; rfl
theorem estM_merge_right (B C : Nat → Nat → Bool) (n k : Nat) : estM n C k ≤ estM n (mergeM B C) k := estM_mono k fun i _ j _ h => by unfold mergeM; rw [h, Bool.or_true]
/-- What came, and how many bits are set. -/
theorem cntM_zero (S : Int) {R n : Nat} (l : Nat → ByteArray) (k : Nat) (h : OkM R n) : cntM n (addsM S R n (fun _ _ => false) l k) R = 0 ↔ k = 0 := by
  constructor
  · intro e
    by_cases hk : k = 0
    · exact hk
    · have := cntM_pos (adds_has (S := S) (R := R) (n := n) (B := fun _ _ => false) (l := l) (t := 0) (show 0 < k by omega)) (bitN_lt S (l 0) n h.2.2.1) R (lineN_lt S (l 0) R h.1)
      omega
  · rintro rfl
    have := cntM_adds S R n l 0
    omega
theorem estM_zero (S : Int) {R n : Nat} (l : Nat → ByteArray) (k : Nat) (h : OkM R n) : estM n (addsM S R n (fun _ _ => false) l k) R = 0 ↔ k = 0 := by
  constructor
  · intro e
    by_cases hk : k = 0
    · exact hk
    · have := estM_pos (adds_has (S := S) (R := R) (n := n) (B := fun _ _ => false) (l := l) (t := 0) (show 0 < k by omega)) (bitN_lt S (l 0) n h.2.2.1) R (lineN_lt S (l 0) R h.1)
      omega
  · rintro rfl
    exact estM_none R fun i _ j _ => rfl
end Go.Proofs.YtkfhofgmjhnknaaDoor.Bm
