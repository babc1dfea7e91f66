
/-
  Sketches of signed counts as plain functions: rows of numbers between two ends, sums with signs, the middle one of so many; and what holds of them: nothing of the program is in this text.
-/
import Derived.Test.YtpjpgcjlbfgkdaaBlmNum
namespace Go.Proofs.Ytpjpgcjlbfgkdaa.Sg
open Fm Bl
set_option linter.unusedVariables false

/-- May a number stand in a cell? -/
def FitsI (z : Int) : Prop := -1099511627776 ≤ z ∧ z ≤ 1099511627776
/-- May a sketch have so many rows of so many numbers? -/
def fitsS (r c : Int) : Bool := decide (1 ≤ r ∧ r ≤ 7 ∧ r % 2 = 1 ∧ 1 ≤ c ∧ c ≤ 256)
theorem fitsS_iff (r c : Int) : fitsS r c = true ↔ (1 ≤ r ∧ r ≤ 7 ∧ r % 2 = 1 ∧ 1 ≤ c ∧ c ≤ 256) := by unfold fitsS; exact decide_eq_true_iff
/-- Is a sketch of any rows right? -/
def RightG (R : Nat) (L : Nat → Nat) (Z : Nat → Nat → Int) : Prop :=
  1 ≤ R ∧ R ≤ 7 ∧ R % 2 = 1 ∧ 1 ≤ L 0 ∧ L 0 ≤ 256 ∧ ∀ i, i < R → L i = L 0 ∧ ∀ j, j < L 0 → FitsI (Z i j)
/-- Is a sketch of rows of one length right? -/
def OkG (R n : Nat) (Z : Nat → Nat → Int) : Prop :=
  1 ≤ R ∧ R ≤ 7 ∧ R % 2 = 1 ∧ 1 ≤ n ∧ n ≤ 256 ∧ ∀ i, i < R → ∀ j, j < n → FitsI (Z i j)
theorem RightG.ok {R : Nat} {L : Nat → Nat} {Z : Nat → Nat → Int} (h : RightG R L Z) : OkG R (L 0) Z := by
  obtain ⟨h1, h2, h3, h4, h5, h6⟩ := h
  exact ⟨h1, h2, h3, h4, h5, fun i hi => (h6 i hi).2⟩
theorem OkG.right {R n : Nat} {Z : Nat → Nat → Int} (h : OkG R n Z) : RightG R (fun _ => n) Z := by
  obtain ⟨h1, h2, h3, h4, h5, h6⟩ := h
  exact ⟨h1, h2, h3, h4, h5, fun i hi => ⟨rfl, h6 i hi⟩⟩
theorem OkG.congr {R n : Nat} {Z Y : Nat → Nat → Int} (h : OkG R n Z) (e : ∀ i j, i < R → j < n → Z i j = Y i j) : OkG R n Y := by
  obtain ⟨h1, h2, h3, h4, h5, h6⟩ := h
  exact ⟨h1, h2, h3, h4, h5, fun i hi j hj => by rw [← e i j hi hj]; exact h6 i hi j hj⟩
theorem OkG.fits {R n : Nat} {Z : Nat → Nat → Int} (h : OkG R n Z) {i j : Nat} (hi : i < R) (hj : j < n) : -1099511627776 ≤ Z i j ∧ Z i j ≤ 1099511627776 := h.2.2.2.2.2 i hi j hj

/-- A key's cell in a row. -/
def cellN (S : Int) (s : ByteArray) (n i : Nat) : Nat := placeN S s n (2 * i)
theorem cellN_lt (S : Int) (s : ByteArray) (n i : Nat) (h : 1 ≤ n) : cellN S s n i < n := placeN_lt S s n (2 * i) h
/-- A key's sign in a row. -/
def sgnN (S : Int) (s : ByteArray) (i : Nat) : Int := signF (rowF S ((2 * i + 1 : Nat) : Int)) s
theorem sgnN_is (S : Int) (s : ByteArray) (i : Nat) : sgnN S s i = 1 ∨ sgnN S s i = -1 := signF_is _ _
theorem sgn_mul {x q : Int} (h : x = 1 ∨ x = -1) : q * x = q ∨ q * x = -q := by rcases h with rfl | rfl <;> omega
theorem sgn_sq {x : Int} (h : x = 1 ∨ x = -1) (q : Int) : q * x * x = q := by rcases h with rfl | rfl <;> omega
theorem sgn_fits {x q m : Int} (h : x = 1 ∨ x = -1) (h0 : -m ≤ q) (h1 : q ≤ m) : -m ≤ q * x ∧ q * x ≤ m := by rcases h with rfl | rfl <;> omega

/-- So many more of a key. -/
def addG (S : Int) (n : Nat) (Z : Nat → Nat → Int) (s : ByteArray) (q : Int) : Nat → Nat → Int := fun i j => if j = cellN S s n i then Z i j + q * sgnN S s i else Z i j
/-- The sums of both. -/
def mergeG (Z Y : Nat → Nat → Int) : Nat → Nat → Int := fun i j => Z i j + Y i j
theorem addG_bound {S : Int} {n : Nat} {Z : Nat → Nat → Int} (s : ByteArray) {q a b : Int} {i j : Nat} (hz : -a ≤ Z i j ∧ Z i j ≤ a) (hq : -b ≤ q ∧ q ≤ b) (hb : 0 ≤ b) : -(a + b) ≤ addG S n Z s q i j ∧ addG S n Z s q i j ≤ a + b := by
  have := sgn_fits (sgnN_is S s i) hq.1 hq.2
  unfold addG
  split <;> omega
/-- So many, and so many more. -/
theorem addG_twice (S : Int) (n : Nat) (Z : Nat → Nat → Int) (s : ByteArray) (a b : Int) (i j : Nat) : addG S n (addG S n Z s a) s b i j = addG S n Z s (a + b) i j := by
  unfold addG
  split
  · rw [Int.add_mul]; omega
  · rfl
theorem OkG.adds_ok {S : Int} {R n : Nat} {Z : Nat → Nat → Int} {s : ByteArray} {q : Int} (h : OkG R n Z) (k : ∀ i, i < R → FitsI (Z i (cellN S s n i) + q * sgnN S s i)) : OkG R n (addG S n Z s q) := by
  obtain ⟨h1, h2, h3, h4, h5, h6⟩ := h
  refine ⟨h1, h2, h3, h4, h5, fun i hi j hj => ?_⟩
  unfold addG
  split
  · rename_i e; rw [e]; exact k i hi
  · exact h6 i hi j hj
theorem OkG.add_cell {S : Int} {R n : Nat} {Z : Nat → Nat → Int} {s : ByteArray} {q : Int} (h : OkG R n (addG S n Z s q)) {i : Nat} (hi : i < R) : FitsI (Z i (cellN S s n i) + q * sgnN S s i) := by
  have := h.2.2.2.2.2 i hi (cellN S s n i) (cellN_lt S s n i h.2.2.2.1)
  unfold addG at this
  rwa [if_pos rfl] at this

/-! ### The middle one -/
/-- How many of the first are less, or more. -/
def lessN (f : Nat → Int) (x : Int) : Nat → Nat
  | 0 => 0
  | k + 1 => lessN f x k + if f k < x then 1 else 0
def moreN (f : Nat → Int) (x : Int) : Nat → Nat
  | 0 => 0
  | k + 1 => moreN f x k + if f k > x then 1 else 0
theorem lessN_le (f : Nat → Int) (x : Int) : ∀ k, lessN f x k ≤ k
  | 0 => Nat.le_refl _
  | k + 1 => by have := lessN_le f x k; unfold lessN; split <;> omega
theorem moreN_le (f : Nat → Int) (x : Int) : ∀ k, moreN f x k ≤ k
  | 0 => Nat.le_refl _
  | k + 1 => by have := moreN_le f x k; unfold moreN; split <;> omega
theorem lessN_list (f : Nat → Int) (x : Int) : ∀ k, lessN f x k = ((List.range k).map f).countP fun z => decide (z < x)
  | 0 => rfl
  | k + 1 => by
    rw [lessN, lessN_list f x k, List.range_succ, List.map_append, List.countP_append]
    simp [List.countP_cons]
theorem moreN_list (f : Nat → Int) (x : Int) : ∀ k, moreN f x k = ((List.range k).map f).countP fun z => decide (z > x)
  | 0 => rfl
  | k + 1 => by
    rw [moreN, moreN_list f x k, List.range_succ, List.map_append, List.countP_append]
    simp [List.countP_cons]
/-- Is a number a middle one of the first R? -/
def MidP (f : Nat → Int) (R : Nat) (x : Int) : Prop := lessN f x R ≤ R / 2 ∧ moreN f x R ≤ R / 2
theorem less_more (f : Nat → Int) {x y : Int} (h : x < y) : ∀ k, k ≤ lessN f y k + moreN f x k
  | 0 => Nat.le_refl _
  | k + 1 => by
    have := less_more f h k
    unfold lessN moreN
    split <;> split <;> omega
theorem mid_one {f : Nat → Int} {R : Nat} (hR : R % 2 = 1) {x y : Int} (h : MidP f R x) (k : MidP f R y) : x = y := by
  rcases Int.lt_trichotomy x y with l | l | l
  · have := less_more f l R; unfold MidP at h k; omega
  · exact l
  · have := less_more f l R; unfold MidP at h k; omega
/-- The numbers by size. -/
def sortL (f : Nat → Int) (R : Nat) : List Int := ((List.range R).map f).mergeSort fun x y => decide (x ≤ y)
theorem sortL_length (f : Nat → Int) (R : Nat) : (sortL f R).length = R := by unfold sortL; simp
theorem sortL_perm (f : Nat → Int) (R : Nat) : (sortL f R).Perm ((List.range R).map f) := List.mergeSort_perm _ _
theorem sortL_sorted (f : Nat → Int) (R : Nat) : (sortL f R).Pairwise fun x y => x ≤ y := by
  have h := List.pairwise_mergeSort (le := fun x y : Int => decide (x ≤ y)) (fun a b c h1 h2 => by simp at h1 h2 ⊢; omega) (fun a b => by simp; omega) ((List.range R).map f)
  exact h.imp fun h => by simpa using h
/-- The middle one of the first R. -/
def midF (f : Nat → Int) (R : Nat) : Int := (sortL f R).getD (R / 2) 0
theorem count_lt : ∀ (l : List Int) (m : Nat) (h : m < l.length), l.Pairwise (fun x y => x ≤ y) → (l.countP fun z => decide (z < l[m])) ≤ m
  | [], m, h, _ => by simp at h
  | a :: l, 0, h, hp => by
    have hp := List.pairwise_cons.1 hp
    rw [Nat.le_zero, List.countP_eq_zero]
    intro z hz
    rcases List.mem_cons.1 hz with rfl | hz
    · simp
    · have := hp.1 z hz; simp; omega
  | a :: l, m + 1, h, hp => by
    have hp := List.pairwise_cons.1 hp
    have ih := count_lt l m (by simpa using h) hp.2
    rw [List.countP_cons]
    simp only [List.getElem_cons_succ]
    split <;> omega
theorem count_gt : ∀ (l : List Int) (m : Nat) (h : m < l.length), l.Pairwise (fun x y => x ≤ y) → (l.countP fun z => decide (z > l[m])) + m + 1 ≤ l.length
  | [], m, h, _ => by simp at h
  | a :: l, 0, h, hp => by
    have := List.countP_le_length (p := fun z => decide (z > a)) (l := l)
    rw [List.countP_cons]
    simp
    simp at this
    omega
  | a :: l, m + 1, h, hp => by
    have hp := List.pairwise_cons.1 hp
    have ih := count_gt l m (by simpa using h) hp.2
    have ha : ¬ a > l[m]'(by simpa using h) := by have := hp.1 _ (List.getElem_mem (by simpa using h : m < l.length)); omega
    rw [List.countP_cons]
    simp only [List.getElem_cons_succ, List.length_cons]
    simp [ha]
    simp at ih
    omega
theorem midF_mem {f : Nat → Int} {R : Nat} (hR : 0 < R) : ∃ i, i < R ∧ f i = midF f R := by
  have hl : R / 2 < (sortL f R).length := by rw [sortL_length]; omega
  have hm : midF f R = (sortL f R)[R / 2] := by unfold midF; rw [List.getD_eq_getElem?_getD, List.getElem?_eq_getElem hl]; rfl
  have := (sortL_perm f R).mem_iff.1 (List.getElem_mem hl)
  rw [← hm] at this
  obtain ⟨i, hi, e⟩ := List.mem_map.1 this
  exact ⟨i, List.mem_range.1 hi, e⟩
theorem midF_mid {f : Nat → Int} {R : Nat} (hR : R % 2 = 1) : MidP f R (midF f R) := by
  have hl : R / 2 < (sortL f R).length := by rw [sortL_length]; omega
  have hm : midF f R = (sortL f R)[R / 2] := by unfold midF; rw [List.getD_eq_getElem?_getD, List.getElem?_eq_getElem hl]; rfl
  have a := count_lt _ _ hl (sortL_sorted f R)
  have b := count_gt _ _ hl (sortL_sorted f R)
  rw [← hm] at a b
  rw [sortL_length] at b
  rw [(sortL_perm f R).countP_eq, ← lessN_list] at a
  rw [(sortL_perm f R).countP_eq, ← moreN_list] at b
  exact ⟨a, by omega⟩
theorem midF_of {f : Nat → Int} {R : Nat} (hR : R % 2 = 1) {x : Int} (h : MidP f R x) : midF f R = x := mid_one hR (midF_mid hR) h
theorem lessN_shift (f : Nat → Int) (x c : Int) : ∀ k, lessN (fun i => f i + c) (x + c) k = lessN f x k
  | 0 => rfl
  | k + 1 => by
    rw [lessN, lessN, lessN_shift f x c k]
    have : f k + c < x + c ↔ f k < x := by omega
    simp only [this]
theorem moreN_shift (f : Nat → Int) (x c : Int) : ∀ k, moreN (fun i => f i + c) (x + c) k = moreN f x k
  | 0 => rfl
  | k + 1 => by
    rw [moreN, moreN, moreN_shift f x c k]
    have : f k + c > x + c ↔ f k > x := by omega
    simp only [this]
theorem lessN_congr {f g : Nat → Int} {x : Int} : ∀ {k : Nat}, (∀ i, i < k → f i = g i) → lessN f x k = lessN g x k
  | 0, _ => rfl
  | k + 1, h => by rw [lessN, lessN, lessN_congr (k := k) fun i hi => h i (by omega), h k (by omega)]
theorem moreN_congr {f g : Nat → Int} {x : Int} : ∀ {k : Nat}, (∀ i, i < k → f i = g i) → moreN f x k = moreN g x k
  | 0, _ => rfl
  | k + 1, h => by rw [moreN, moreN, moreN_congr (k := k) fun i hi => h i (by omega), h k (by omega)]
theorem midF_congr {f g : Nat → Int} {R : Nat} (h : ∀ i, i < R → f i = g i) : midF f R = midF g R := by
  unfold midF sortL
  congr 2
  exact List.map_congr_left fun i hi => h i (List.mem_range.1 hi)
theorem midF_shift {f g : Nat → Int} {R : Nat} (hR : R % 2 = 1) {c : Int} (h : ∀ i, i < R → g i = f i + c) : midF g R = midF f R + c := by
  refine midF_of hR ?_
  have m := midF_mid (f := f) hR
  unfold MidP at m ⊢
  rw [lessN_congr (g := fun i => f i + c) h, moreN_congr (g := fun i => f i + c) h, lessN_shift, moreN_shift]
  exact m
/-- How many of the first are such a number. -/
def sameN (f : Nat → Int) (x : Int) : Nat → Nat
  | 0 => 0
  | k + 1 => sameN f x k + if f k = x then 1 else 0
theorem same_less (f : Nat → Int) (x : Int) : ∀ k, lessN f x k + sameN f x k ≤ k ∧ moreN f x k + sameN f x k ≤ k
  | 0 => ⟨Nat.le_refl _, Nat.le_refl _⟩
  | k + 1 => by
    have := same_less f x k
    unfold lessN moreN sameN
    by_cases e : f k = x
    · rw [if_pos e, if_neg (by omega), if_neg (by omega)]; omega
    · rw [if_neg e]; split <;> split <;> omega
theorem midF_most {f : Nat → Int} {R : Nat} (hR : R % 2 = 1) {x : Int} (h : R < 2 * sameN f x R) : midF f R = x := by
  have := same_less f x R
  exact midF_of hR ⟨by omega, by omega⟩

/-! ### What is told of a key -/
/-- A key's cell times its sign. -/
def ownG (S : Int) (n : Nat) (Z : Nat → Nat → Int) (s : ByteArray) (i : Nat) : Int := Z i (cellN S s n i) * sgnN S s i
/-- What is told of a key. -/
def getG (S : Int) (R n : Nat) (Z : Nat → Nat → Int) (s : ByteArray) : Int := midF (ownG S n Z s) R
theorem ownG_fits {S : Int} {R n : Nat} {Z : Nat → Nat → Int} (h : OkG R n Z) (s : ByteArray) {i : Nat} (hi : i < R) : -1099511627776 ≤ ownG S n Z s i ∧ ownG S n Z s i ≤ 1099511627776 := by
  have := h.fits hi (cellN_lt S s n i h.2.2.2.1)
  exact sgn_fits (sgnN_is S s i) this.1 this.2
theorem getG_fits {S : Int} {R n : Nat} {Z : Nat → Nat → Int} (h : OkG R n Z) (s : ByteArray) : -1099511627776 ≤ getG S R n Z s ∧ getG S R n Z s ≤ 1099511627776 := by
  obtain ⟨i, hi, e⟩ := midF_mem (f := ownG S n Z s) (R := R) (by have := h.1; omega)
  unfold getG
  rw [← e]
  exact ownG_fits h s hi
theorem getG_congr {S : Int} {R n : Nat} {Z Y : Nat → Nat → Int} (hn : 1 ≤ n) (s : ByteArray) (e : ∀ i j, i < R → j < n → Z i j = Y i j) : getG S R n Z s = getG S R n Y s :=
  midF_congr fun i hi => by unfold ownG; rw [e i _ hi (cellN_lt S s n i hn)]
theorem getG_add {S : Int} {R n : Nat} {Z : Nat → Nat → Int} (h : OkG R n Z) (s : ByteArray) (q : Int) : getG S R n (addG S n Z s q) s = getG S R n Z s + q := by
  refine midF_shift h.2.2.1 fun i hi => ?_
  unfold ownG addG
  rw [if_pos rfl, Int.add_mul, sgn_sq (sgnN_is S s i)]

/-! ### Items, one behind the other -/
def addsG (S : Int) (n : Nat) (Z : Nat → Nat → Int) (l : Nat → ByteArray) (q : Nat → Int) : Nat → Nat → Nat → Int
  | 0 => Z
  | k + 1 => addG S n (addsG S n Z l q k) (l k) (q k)
/-- What comes to a cell. -/
def sumG (S : Int) (n : Nat) (l : Nat → ByteArray) (q : Nat → Int) (i j : Nat) : Nat → Int
  | 0 => 0
  | k + 1 => sumG S n l q i j k + if j = cellN S (l k) n i then q k * sgnN S (l k) i else 0
theorem adds_sum {S : Int} {n : Nat} {Z : Nat → Nat → Int} {l : Nat → ByteArray} {q : Nat → Int} {i j : Nat} : ∀ (k : Nat), addsG S n Z l q k i j = Z i j + sumG S n l q i j k
  | 0 => by unfold addsG sumG; omega
  | k + 1 => by
    have ih := adds_sum (S := S) (n := n) (Z := Z) (l := l) (q := q) (i := i) (j := j) k
    show (if j = cellN S (l k) n i then addsG S n Z l q k i j + q k * sgnN S (l k) i else addsG S n Z l q k i j) = Z i j + (sumG S n l q i j k + if j = cellN S (l k) n i then q k * sgnN S (l k) i else 0)
    rw [ih]
    split <;> omega
theorem sumG_bound {S : Int} {n : Nat} {l : Nat → ByteArray} {q : Nat → Int} {i j : Nat} {m : Int} (hm : 0 ≤ m) : ∀ {k : Nat}, (∀ t, t < k → -m ≤ q t ∧ q t ≤ m) → -(k * m) ≤ sumG S n l q i j k ∧ sumG S n l q i j k ≤ k * m
  | 0, _ => by unfold sumG; simp
  | k + 1, h => by
    have ih := sumG_bound (S := S) (n := n) (l := l) (i := i) (j := j) hm (k := k) fun t ht => h t (by omega)
    have hk := h k (by omega)
    have := sgn_fits (sgnN_is S (l k) i) hk.1 hk.2
    have e : ((k + 1 : Nat) : Int) * m = k * m + m := by rw [Int.natCast_add, Int.add_mul]; simp
    rw [e]
    unfold sumG; split <;> omega
/-- So many items leave a sketch right that was far enough from both ends. -/
theorem OkG.adds {S : Int} {R n : Nat} {Z : Nat → Nat → Int} (h : OkG R n Z) {a : Int} (ha : ∀ i, i < R → ∀ j, j < n → -a ≤ Z i j ∧ Z i j ≤ a) (l : Nat → ByteArray) {q : Nat → Int} {k : Nat} (hq : ∀ t, t < k → -1073741824 ≤ q t ∧ q t ≤ 1073741824) (hk : a + k * 1073741824 ≤ 1099511627776) : OkG R n (addsG S n Z l q k) := by
  obtain ⟨h1, h2, h3, h4, h5, h6⟩ := h
  refine ⟨h1, h2, h3, h4, h5, fun i hi j hj => ?_⟩
  rw [adds_sum]
  have := ha i hi j hj
  have := sumG_bound (S := S) (n := n) (l := l) (i := i) (j := j) (m := 1073741824) (by omega) hq
  exact ⟨by omega, by omega⟩
theorem adds_bound {S : Int} {R n : Nat} {Z : Nat → Nat → Int} {a : Int} (ha : ∀ i, i < R → ∀ j, j < n → -a ≤ Z i j ∧ Z i j ≤ a) (l : Nat → ByteArray) {q : Nat → Int} {k : Nat} (hq : ∀ t, t < k → -1073741824 ≤ q t ∧ q t ≤ 1073741824) : ∀ i, i < R → ∀ j, j < n → -(a + k * 1073741824) ≤ addsG S n Z l q k i j ∧ addsG S n Z l q k i j ≤ a + k * 1073741824 := fun i hi j hj => by
  rw [adds_sum]
  have := ha i hi j hj
  have := sumG_bound (S := S) (n := n) (l := l) (i := i) (j := j) (m := 1073741824) (by omega) hq
  exact ⟨by omega, by omega⟩
/-- The order does not matter. -/
theorem adds_turn {S : Int} {n : Nat} (Z : Nat → Nat → Int) (l m : Nat → ByteArray) (q r : Nat → Int) (a b i j : Nat) :
    addsG S n (addsG S n Z l q a) m r b i j = addsG S n (addsG S n Z m r b) l q a i j := by
  rw [adds_sum, adds_sum, adds_sum, adds_sum]; omega
/-- Two sketches merged are one to which all was added. -/
theorem adds_merge {S : Int} {n : Nat} (l m : Nat → ByteArray) (q r : Nat → Int) (a b i j : Nat) :
    addsG S n (addsG S n (fun _ _ => 0) l q a) m r b i j = mergeG (addsG S n (fun _ _ => 0) l q a) (addsG S n (fun _ _ => 0) m r b) i j := by
  unfold mergeG
  rw [adds_sum, adds_sum, adds_sum]; omega
theorem sum_away {S : Int} {n : Nat} (l : Nat → ByteArray) (q : Nat → Int) (i j : Nat) : ∀ k, sumG S n l (fun t => -q t) i j k = -sumG S n l q i j k
  | 0 => rfl
  | k + 1 => by
    unfold sumG
    rw [sum_away l q i j k, Int.neg_mul]
    split <;> omega
/-- What is added and taken away is nothing. -/
theorem adds_away {S : Int} {n : Nat} (Z : Nat → Nat → Int) (l m : Nat → ByteArray) (q r : Nat → Int) (a b i j : Nat) :
    addsG S n (addsG S n (addsG S n Z l q a) m r b) m (fun t => -r t) b i j = addsG S n Z l q a i j := by
  rw [adds_sum, adds_sum, sum_away]; omega
/-- What came for a key itself. -/
def ownF (l : Nat → ByteArray) (q : Nat → Int) (s : ByteArray) : Nat → Int
  | 0 => 0
  | k + 1 => ownF l q s k + if l k = s then q k else 0
theorem ownF_bound {l : Nat → ByteArray} {q : Nat → Int} {s : ByteArray} {m : Int} (hm : 0 ≤ m) : ∀ {k : Nat}, (∀ t, t < k → -m ≤ q t ∧ q t ≤ m) → -(k * m) ≤ ownF l q s k ∧ ownF l q s k ≤ k * m
  | 0, _ => by unfold ownF; simp
  | k + 1, h => by
    have ih := ownF_bound (l := l) (s := s) hm (k := k) fun t ht => h t (by omega)
    have hk := h k (by omega)
    have e : ((k + 1 : Nat) : Int) * m = k * m + m := by rw [Int.natCast_add, Int.add_mul]; simp
    rw [e]
    unfold ownF; split <;> omega
/-- How much came for other keys of a key's cell. -/
def othF (S : Int) (n : Nat) (l : Nat → ByteArray) (q : Nat → Int) (s : ByteArray) (i : Nat) : Nat → Int
  | 0 => 0
  | k + 1 => othF S n l q s i k + if l k ≠ s ∧ cellN S (l k) n i = cellN S s n i then max (q k) (-q k) else 0
theorem othF_bound {S : Int} {n : Nat} {l : Nat → ByteArray} {q : Nat → Int} {s : ByteArray} {i : Nat} {m : Int} (hm : 0 ≤ m) : ∀ {k : Nat}, (∀ t, t < k → -m ≤ q t ∧ q t ≤ m) → 0 ≤ othF S n l q s i k ∧ othF S n l q s i k ≤ k * m
  | 0, _ => by unfold othF; simp
  | k + 1, h => by
    have ih := othF_bound (S := S) (n := n) (l := l) (s := s) (i := i) hm (k := k) fun t ht => h t (by omega)
    have hk := h k (by omega)
    have e : ((k + 1 : Nat) : Int) * m = k * m + m := by rw [Int.natCast_add, Int.add_mul]; simp
    rw [e]
    unfold othF; split <;> omega
/-- A row's number for a key lies within what came for others of its cell. -/
theorem own_near {S : Int} {n : Nat} {l : Nat → ByteArray} {q : Nat → Int} {s : ByteArray} {i : Nat} : ∀ (k : Nat),
    ownF l q s k - othF S n l q s i k ≤ sumG S n l q i (cellN S s n i) k * sgnN S s i ∧ sumG S n l q i (cellN S s n i) k * sgnN S s i ≤ ownF l q s k + othF S n l q s i k
  | 0 => by unfold ownF othF sumG; simp
  | k + 1 => by
    have ih := own_near (S := S) (n := n) (l := l) (q := q) (s := s) (i := i) k
    show ownF l q s k + (if l k = s then q k else 0) - (othF S n l q s i k + if l k ≠ s ∧ cellN S (l k) n i = cellN S s n i then max (q k) (-q k) else 0) ≤ (sumG S n l q i (cellN S s n i) k + if cellN S s n i = cellN S (l k) n i then q k * sgnN S (l k) i else 0) * sgnN S s i ∧ (sumG S n l q i (cellN S s n i) k + if cellN S s n i = cellN S (l k) n i then q k * sgnN S (l k) i else 0) * sgnN S s i ≤ ownF l q s k + (if l k = s then q k else 0) + (othF S n l q s i k + if l k ≠ s ∧ cellN S (l k) n i = cellN S s n i then max (q k) (-q k) else 0)
    rw [Int.add_mul]
    generalize sumG S n l q i (cellN S s n i) k * sgnN S s i = X at *
    by_cases e : l k = s
    · rw [if_pos e, e, if_pos rfl, if_neg (by simp), sgn_sq (sgnN_is S s i)]
      omega
    · rw [if_neg e]
      by_cases c : cellN S (l k) n i = cellN S s n i
      · rw [if_pos ⟨e, c⟩, if_pos c.symm]
        rcases sgnN_is S (l k) i with h | h <;> rcases sgnN_is S s i with g | g <;> rw [h, g] <;> omega
      · rw [if_neg (fun h => c h.2), if_neg (fun h => c h.symm)]
        omega
/-- In how many of the first rows nothing came for others of a key's cell. -/
def aloneN (S : Int) (n m : Nat) (l : Nat → ByteArray) (q : Nat → Int) (s : ByteArray) : Nat → Nat
  | 0 => 0
  | k + 1 => aloneN S n m l q s k + if othF S n l q s k m = 0 then 1 else 0
theorem aloneN_le (S : Int) (n m : Nat) (l : Nat → ByteArray) (q : Nat → Int) (s : ByteArray) : ∀ k, aloneN S n m l q s k ≤ k
  | 0 => Nat.le_refl _
  | k + 1 => by have := aloneN_le S n m l q s k; unfold aloneN; split <;> omega
theorem alone_same {S : Int} {n m : Nat} {l : Nat → ByteArray} {q : Nat → Int} {s : ByteArray} : ∀ k, aloneN S n m l q s k ≤ sameN (ownG S n (addsG S n (fun _ _ => 0) l q m) s) (ownF l q s m) k
  | 0 => Nat.le_refl _
  | k + 1 => by
    have ih := alone_same (S := S) (n := n) (m := m) (l := l) (q := q) (s := s) k
    unfold aloneN sameN
    by_cases e : othF S n l q s k m = 0
    · have h := own_near (S := S) (n := n) (l := l) (q := q) (s := s) (i := k) m
      rw [if_pos e, if_pos]
      · omega
      · unfold ownG
        rw [adds_sum]
        have : (0 : Int) + sumG S n l q k (cellN S s n k) m = sumG S n l q k (cellN S s n k) m := by omega
        rw [this]
        omega
    · rw [if_neg e]; split <;> omega
/-- A key that is alone in more than half of the rows is told as it was added. -/
theorem get_alone {S : Int} {R n m : Nat} {l : Nat → ByteArray} {q : Nat → Int} {s : ByteArray} (hR : R % 2 = 1) (h : R < 2 * aloneN S n m l q s R) : getG S R n (addsG S n (fun _ _ => 0) l q m) s = ownF l q s m := by
  have := alone_same (S := S) (n := n) (m := m) (l := l) (q := q) (s := s) R
  exact midF_most hR (by omega)
/-- In any case what is told lies, in some row, within what came for others of its cell there. -/
theorem get_near {S : Int} {R n m : Nat} {l : Nat → ByteArray} {q : Nat → Int} {s : ByteArray} (hR : 0 < R) :
    ∃ i, i < R ∧ ownF l q s m - othF S n l q s i m ≤ getG S R n (addsG S n (fun _ _ => 0) l q m) s ∧ getG S R n (addsG S n (fun _ _ => 0) l q m) s ≤ ownF l q s m + othF S n l q s i m := by
  obtain ⟨i, hi, e⟩ := midF_mem (f := ownG S n (addsG S n (fun _ _ => 0) l q m) s) hR
  have h := own_near (S := S) (n := n) (l := l) (q := q) (s := s) (i := i) m
  refine ⟨i, hi, ?_⟩
  unfold getG
  rw [← e]
  unfold ownG
  rw [adds_sum]
  have : (0 : Int) + sumG S n l q i (cellN S s n i) m = sumG S n l q i (cellN S s n i) m := by omega
  rw [this]
  omega
end Go.Proofs.Ytpjpgcjlbfgkdaa.Sg
