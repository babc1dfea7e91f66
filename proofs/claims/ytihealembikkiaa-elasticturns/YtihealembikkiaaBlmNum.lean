
/-
  Filters as plain functions: a row's seed, the places of a key, bits that are set, how many there are; and what holds of them: nothing of the program is in this text.
-/
import Derived.Test.YtihealembikkiaaHashNum
namespace Go.Proofs.Ytihealembikkiaa.Bl
open Fm

def rootF (seed i : Int) : Int := addF (mulF (addF seed 3) (addF (oF i) 2)) 5
/-- The seed of a row. -/
def rowF (seed i : Int) : Int := mulF (rootF seed i) (rootF seed i)
theorem rowF_U (seed i : Int) : U (rowF seed i) := mulF_U _ _
theorem row_ref (seed i : Int) : powF (addF (mulF (addF seed 3) (addF i 2)) 5) 2 = rowF seed i := by
  unfold rowF rootF
  rw [addF_oF_left]
  generalize mulF (addF seed 3) (addF i 2) = m
  rw [show (2 : Int) = 0 + 1 + 1 from rfl, pow_succ_F _ _ (by omega), pow_succ_F _ _ (by omega), pow_zero_F]
  congr 1
  have h0 := addF_nn m 5
  have h1 := addF_lt m 5
  unfold mulF
  omega
/-- The place of a key in a row. -/
def placeN (S : Int) (s : ByteArray) (n i : Nat) : Nat := (cellF (rowF S i) s n).toNat
theorem cell_range (a : Int) (s : ByteArray) (n : Nat) (h : 1 ≤ n) : 0 ≤ cellF a s n ∧ cellF a s n < n := by
  unfold cellF
  rw [if_neg (by omega)]
  exact ⟨Int.emod_nonneg _ (by omega), Int.emod_lt_of_pos _ (by omega)⟩
theorem placeN_eq (S : Int) (s : ByteArray) (n i : Nat) (h : 1 ≤ n) : cellF (rowF S i) s n = (placeN S s n i : Int) := by
  have := cell_range (rowF S i) s n h
  unfold placeN
  omega
theorem placeN_lt (S : Int) (s : ByteArray) (n i : Nat) (h : 1 ≤ n) : placeN S s n i < n := by
  have := cell_range (rowF S i) s n h
  unfold placeN
  omega

/-- Is a filter of so many bits and hashes right? -/
def fitsB (b h : Int) : Bool := decide (1 ≤ b ∧ b ≤ 256 ∧ 1 ≤ h ∧ h ≤ 7)
theorem fitsB_iff (b h : Int) : fitsB b h = true ↔ (1 ≤ b ∧ b ≤ 256 ∧ 1 ≤ h ∧ h ≤ 7) := by unfold fitsB; exact decide_eq_true_iff
/-- How many places a key has. -/
def kN (n : Nat) (H : Int) : Nat := if fitsB n H = true then H.toNat else 0
theorem kN_right {n : Nat} {H : Int} (h : fitsB n H = true) : kN n H = H.toNat := if_pos h
theorem kN_wrong {n : Nat} {H : Int} (h : fitsB n H = false) : kN n H = 0 := if_neg (by rw [h]; decide)
theorem kN_le (n : Nat) (H : Int) : kN n H ≤ 7 := by
  unfold kN
  split
  · rename_i h
    rw [fitsB_iff] at h
    omega
  · omega
theorem kN_pos {n : Nat} {H : Int} {i : Nat} (h : i < kN n H) : 1 ≤ n ∧ n ≤ 256 := by
  unfold kN at h
  split at h
  · rename_i h2
    rw [fitsB_iff] at h2
    omega
  · omega

/-- The bits, with those at the first k places set. -/
def setN (B : Nat → Bool) (p : Nat → Nat) : Nat → Nat → Bool
  | 0 => B
  | k + 1 => fun q => if q = p k then true else setN B p k q
theorem setN_true (B : Nat → Bool) (p : Nat → Nat) (q : Nat) : ∀ k, setN B p k q = true ↔ B q = true ∨ ∃ i, i < k ∧ p i = q
  | 0 => by simp [setN]
  | k + 1 => by
    show (if q = p k then true else setN B p k q) = true ↔ _
    by_cases h : q = p k
    · rw [if_pos h]
      exact ⟨fun _ => Or.inr ⟨k, by omega, h.symm⟩, fun _ => rfl⟩
    · rw [if_neg h, setN_true B p q k]
      constructor
      · rintro (h1 | ⟨i, h1, h2⟩)
        · exact Or.inl h1
        · exact Or.inr ⟨i, by omega, h2⟩
      · rintro (h1 | ⟨i, h1, h2⟩)
        · exact Or.inl h1
        · refine Or.inr ⟨i, ?_, h2⟩
          have : i ≠ k := fun e => h (by rw [← h2, e])
          omega
/-- The bits of a filter with a key more. -/
def addB (S H : Int) (n : Nat) (B : Nat → Bool) (s : ByteArray) : Nat → Bool := setN B (placeN S s n) (kN n H)
theorem addB_true (S H : Int) (n : Nat) (B : Nat → Bool) (s : ByteArray) (q : Nat) : addB S H n B s q = true ↔ B q = true ∨ ∃ i, i < kN n H ∧ placeN S s n i = q := setN_true _ _ _ _
/-- Has a filter a key? -/
def HasN (B : Nat → Bool) (p : Nat → Nat) (k : Nat) : Prop := ∀ i, i < k → B (p i) = true
theorem has_added (S H : Int) (n : Nat) (B : Nat → Bool) (s : ByteArray) : HasN (addB S H n B s) (placeN S s n) (kN n H) := fun i hi => (addB_true _ _ _ _ _ _).2 (Or.inr ⟨i, hi, rfl⟩)
theorem has_more {S H : Int} {n : Nat} {B : Nat → Bool} {s : ByteArray} {p : Nat → Nat} {k : Nat} (h : HasN B p k) : HasN (addB S H n B s) p k := fun i hi => (addB_true _ _ _ _ _ _).2 (Or.inl (h i hi))
/-- Keys come, one behind the other. -/
def addsB (S H : Int) (n : Nat) (B : Nat → Bool) (l : Nat → ByteArray) : Nat → Nat → Bool
  | 0 => B
  | k + 1 => addB S H n (addsB S H n B l k) (l k)
theorem addsB_true (S H : Int) (n : Nat) (B : Nat → Bool) (l : Nat → ByteArray) (q : Nat) : ∀ k, addsB S H n B l k q = true ↔ B q = true ∨ ∃ j, j < k ∧ ∃ i, i < kN n H ∧ placeN S (l j) n i = q
  | 0 => by simp [addsB]
  | k + 1 => by
    rw [addsB, addB_true, addsB_true S H n B l q k]
    constructor
    · rintro ((h | ⟨j, hj, h⟩) | h)
      · exact Or.inl h
      · exact Or.inr ⟨j, by omega, h⟩
      · exact Or.inr ⟨k, by omega, h⟩
    · rintro (h | ⟨j, hj, h⟩)
      · exact Or.inl (Or.inl h)
      · by_cases e : j = k
        · subst e; exact Or.inr h
        · exact Or.inl (Or.inr ⟨j, by omega, h⟩)
theorem bool_ext {a b : Bool} (h : a = true ↔ b = true) : a = b := by
  cases a <;> cases b <;> simp_all
/-- The order does not matter. -/
theorem adds_turn (S H : Int) (n : Nat) (B : Nat → Bool) (l m : Nat → ByteArray) (a b q : Nat) : addsB S H n (addsB S H n B l a) m b q = addsB S H n (addsB S H n B m b) l a q := by
  refine bool_ext ?_
  rw [addsB_true, addsB_true, addsB_true, addsB_true]
  constructor
  · rintro ((h | h) | h)
    · exact Or.inl (Or.inl h)
    · exact Or.inr h
    · exact Or.inl (Or.inr h)
  · rintro ((h | h) | h)
    · exact Or.inl (Or.inl h)
    · exact Or.inr h
    · exact Or.inl (Or.inr h)
/-- Two filters merged are one to which all was added. -/
theorem adds_merge (S H : Int) (n : Nat) (B : Nat → Bool) (l m : Nat → ByteArray) (a b q : Nat) : addsB S H n (addsB S H n B l a) m b q = (addsB S H n B l a q || addsB S H n B m b q) := by
  refine bool_ext ?_
  rw [Bool.or_eq_true, addsB_true, addsB_true, addsB_true]
  constructor
  · rintro ((h | h) | h)
    · exact Or.inl (Or.inl h)
    · exact Or.inl (Or.inr h)
    · exact Or.inr (Or.inr h)
  · rintro ((h | h) | (h | h))
    · exact Or.inl (Or.inl h)
    · exact Or.inl (Or.inr h)
    · exact Or.inl (Or.inl h)
    · exact Or.inr h
theorem has_adds {S H : Int} {n : Nat} {B : Nat → Bool} {l : Nat → ByteArray} {k j : Nat} (h : j < k) : HasN (addsB S H n B l k) (placeN S (l j) n) (kN n H) := fun i hi => (addsB_true _ _ _ _ _ _ _).2 (Or.inr ⟨j, h, i, hi, rfl⟩)
theorem has_adds_more {S H : Int} {n : Nat} {B : Nat → Bool} {l : Nat → ByteArray} {k : Nat} {p : Nat → Nat} {K : Nat} (h : HasN B p K) : HasN (addsB S H n B l k) p K := fun i hi => (addsB_true _ _ _ _ _ _ _).2 (Or.inl (h i hi))

/-- How many of the first bits are set. -/
def cntB (B : Nat → Bool) : Nat → Nat
  | 0 => 0
  | k + 1 => cntB B k + (if B k = true then 1 else 0)
theorem cntB_le (B : Nat → Bool) : ∀ k, cntB B k ≤ k
  | 0 => Nat.le_refl _
  | k + 1 => by
    have := cntB_le B k
    rw [cntB]
    split <;> omega
theorem cntB_congr {B C : Nat → Bool} : ∀ k, (∀ i, i < k → B i = C i) → cntB B k = cntB C k
  | 0, _ => rfl
  | k + 1, h => by rw [cntB, cntB, cntB_congr k fun i hi => h i (by omega), h k (by omega)]
theorem cntB_none {B : Nat → Bool} : ∀ k, (∀ i, i < k → B i = false) → cntB B k = 0
  | 0, _ => rfl
  | k + 1, h => by rw [cntB, cntB_none k fun i hi => h i (by omega), h k (by omega)]; rfl
theorem cntB_one (B : Nat → Bool) (p : Nat) : ∀ k, cntB (fun q => if q = p then true else B q) k = cntB B k + (if p < k ∧ B p = false then 1 else 0)
  | 0 => by simp [cntB]
  | k + 1 => by
    rw [cntB, cntB, cntB_one B p k]
    by_cases e : k = p
    · subst e
      rw [if_pos rfl, if_pos rfl, if_neg (by omega)]
      cases h : B k <;> simp
    · rw [if_neg e]
      have : (p < k + 1 ∧ B p = false) ↔ (p < k ∧ B p = false) := by
        constructor
        · rintro ⟨a, b⟩; exact ⟨by omega, b⟩
        · rintro ⟨a, b⟩; exact ⟨by omega, b⟩
      simp only [this]
      omega
theorem cnt_setN_le (B : Nat → Bool) (p : Nat → Nat) (n : Nat) : ∀ k, cntB B n ≤ cntB (setN B p k) n ∧ cntB (setN B p k) n ≤ cntB B n + k
  | 0 => ⟨Nat.le_refl _, Nat.le_refl _⟩
  | k + 1 => by
    have h := cnt_setN_le B p n k
    rw [setN, cntB_one]
    split <;> omega
theorem cnt_setN_same (B : Nat → Bool) (p : Nat → Nat) (n k : Nat) (h : HasN B p k) : cntB (setN B p k) n = cntB B n := by
  refine cntB_congr n fun q _ => bool_ext ?_
  rw [setN_true]
  constructor
  · rintro (a | ⟨i, hi, rfl⟩)
    · exact a
    · exact h i hi
  · exact Or.inl
theorem cnt_setN_more (B : Nat → Bool) (p : Nat → Nat) (n : Nat) : ∀ k, (∀ i, i < k → p i < n) → cntB (setN B p k) n = cntB B n → HasN B p k
  | 0, _, _ => fun i hi => by omega
  | k + 1, hp, h => by
    have h1 := cnt_setN_le B p n k
    rw [setN, cntB_one] at h
    have h2 : cntB (setN B p k) n = cntB B n := by split at h <;> omega
    have ih := cnt_setN_more B p n k (fun i hi => hp i (by omega)) h2
    intro i hi
    by_cases e : i = k
    · subst e
      by_cases c : setN B p i (p i) = false
      · rw [if_pos ⟨hp i (by omega), c⟩] at h
        omega
      · have c' : setN B p i (p i) = true := by simpa using c
        rcases (setN_true B p (p i) i).1 c' with h3 | ⟨j, hj, h3⟩
        · exact h3
        · rw [← h3]; exact ih j hj
    · exact ih i (by omega)
theorem few_le (S H : Int) (n : Nat) (B : Nat → Bool) (s : ByteArray) : cntB B n ≤ cntB (addB S H n B s) n ∧ cntB (addB S H n B s) n ≤ cntB B n + kN n H := cnt_setN_le _ _ _ _
theorem few_has (S H : Int) (n : Nat) (B : Nat → Bool) (s : ByteArray) : cntB (addB S H n B s) n = cntB B n ↔ HasN B (placeN S s n) (kN n H) :=
  ⟨fun h => cnt_setN_more B _ n _ (fun i hi => placeN_lt S s n i (kN_pos hi).1) h, fun h => cnt_setN_same B _ n _ h⟩
end Go.Proofs.Ytihealembikkiaa.Bl
