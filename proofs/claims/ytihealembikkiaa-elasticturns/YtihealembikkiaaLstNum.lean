
/-
  Sketches of counts as plain functions: rows of numbers, sums with an upper end, the least of the rows; and what holds of them: nothing of the program is in this text.
-/
import Derived.Test.YtihealembikkiaaBlmNum
namespace Go.Proofs.Ytihealembikkiaa.Lt
open Fm Bl
set_option linter.unusedVariables false
set_option maxRecDepth 20000

/-- May a sketch have so many rows of so many numbers, and such a greatest number? -/
def fitsL (r c m : Int) : Bool := decide (1 ≤ r ∧ r ≤ 7 ∧ 1 ≤ c ∧ c ≤ 256 ∧ 1 ≤ m ∧ m ≤ 1099511627776)
theorem fitsL_iff (r c m : Int) : fitsL r c m = true ↔ (1 ≤ r ∧ r ≤ 7 ∧ 1 ≤ c ∧ c ≤ 256 ∧ 1 ≤ m ∧ m ≤ 1099511627776) := by unfold fitsL; exact decide_eq_true_iff
/-- Is a sketch of any rows right? -/
def RightP (M : Int) (R : Nat) (L : Nat → Nat) (Z : Nat → Nat → Int) : Prop :=
  1 ≤ M ∧ M ≤ 1099511627776 ∧ 1 ≤ R ∧ R ≤ 7 ∧ 1 ≤ L 0 ∧ L 0 ≤ 256 ∧ ∀ i, i < R → L i = L 0 ∧ ∀ j, j < L 0 → 0 ≤ Z i j ∧ Z i j ≤ M
/-- Is a sketch of rows of one length right? -/
def OkP (M : Int) (R n : Nat) (Z : Nat → Nat → Int) : Prop :=
  1 ≤ M ∧ M ≤ 1099511627776 ∧ 1 ≤ R ∧ R ≤ 7 ∧ 1 ≤ n ∧ n ≤ 256 ∧ ∀ i, i < R → ∀ j, j < n → 0 ≤ Z i j ∧ Z i j ≤ M
theorem RightP.ok {M : Int} {R : Nat} {L : Nat → Nat} {Z : Nat → Nat → Int} (h : RightP M R L Z) : OkP M R (L 0) Z := by
  obtain ⟨h1, h2, h3, h4, h5, h6, h7⟩ := h
  exact ⟨h1, h2, h3, h4, h5, h6, fun i hi => (h7 i hi).2⟩
theorem OkP.right {M : Int} {R n : Nat} {Z : Nat → Nat → Int} (h : OkP M R n Z) : RightP M R (fun _ => n) Z := by
  obtain ⟨h1, h2, h3, h4, h5, h6, h7⟩ := h
  exact ⟨h1, h2, h3, h4, h5, h6, fun i hi => ⟨rfl, h7 i hi⟩⟩
theorem OkP.congr {M : Int} {R n : Nat} {Z Y : Nat → Nat → Int} (h : OkP M R n Z) (e : ∀ i j, i < R → j < n → Z i j = Y i j) : OkP M R n Y := by
  obtain ⟨h1, h2, h3, h4, h5, h6, h7⟩ := h
  exact ⟨h1, h2, h3, h4, h5, h6, fun i hi j hj => by rw [← e i j hi hj]; exact h7 i hi j hj⟩

/-- A sum, with an upper end. -/
def capF (x m : Int) : Int := if x ≤ m then x else m
theorem capF_le (x m : Int) : capF x m ≤ m ∧ capF x m ≤ x := by unfold capF; split <;> omega
theorem capF_min (x m : Int) : capF x m = x ∨ (capF x m = m ∧ m < x) := by unfold capF; split <;> omega
/-- So many more of a key. -/
def addZ (S M : Int) (n : Nat) (Z : Nat → Nat → Int) (s : ByteArray) (q : Int) : Nat → Nat → Int := fun i j => if j = placeN S s n i then capF (Z i j + q) M else Z i j
/-- The sums of both. -/
def mergeZ (M : Int) (Z Y : Nat → Nat → Int) : Nat → Nat → Int := fun i j => capF (Z i j + Y i j) M
/-- The least of the first k rows. -/
def getF (M : Int) (Z : Nat → Nat → Int) (p : Nat → Nat) : Nat → Int
  | 0 => M
  | k + 1 => if Z k (p k) < getF M Z p k then Z k (p k) else getF M Z p k
theorem OkP.add {S M : Int} {R n : Nat} {Z : Nat → Nat → Int} (h : OkP M R n Z) (s : ByteArray) {q : Int} (hq : 0 ≤ q) : OkP M R n (addZ S M n Z s q) := by
  obtain ⟨h1, h2, h3, h4, h5, h6, h7⟩ := h
  refine ⟨h1, h2, h3, h4, h5, h6, fun i hi j hj => ?_⟩
  have := h7 i hi j hj
  unfold addZ capF
  split
  · split <;> omega
  · exact this
theorem OkP.merge {M : Int} {R n : Nat} {Z Y : Nat → Nat → Int} (h : OkP M R n Z) (k : OkP M R n Y) : OkP M R n (mergeZ M Z Y) := by
  obtain ⟨h1, h2, h3, h4, h5, h6, h7⟩ := h
  obtain ⟨_, _, _, _, _, _, k7⟩ := k
  refine ⟨h1, h2, h3, h4, h5, h6, fun i hi j hj => ?_⟩
  have := h7 i hi j hj
  have := k7 i hi j hj
  unfold mergeZ capF
  split <;> omega
theorem getF_le (M : Int) (Z : Nat → Nat → Int) (p : Nat → Nat) : ∀ k, getF M Z p k ≤ M ∧ ∀ i, i < k → getF M Z p k ≤ Z i (p i)
  | 0 => ⟨Int.le_refl _, fun i hi => by omega⟩
  | k + 1 => by
    have ih := getF_le M Z p k
    refine ⟨?_, fun i hi => ?_⟩
    · unfold getF; split <;> omega
    · by_cases e : i = k
      · subst e; unfold getF; split <;> omega
      · have := ih.2 i (by omega)
        unfold getF; split <;> omega
theorem getF_ge {M : Int} {Z : Nat → Nat → Int} {p : Nat → Nat} {x : Int} (hM : x ≤ M) : ∀ k, (∀ i, i < k → x ≤ Z i (p i)) → x ≤ getF M Z p k
  | 0, _ => hM
  | k + 1, h => by
    have ih := getF_ge hM k fun i hi => h i (by omega)
    have := h k (by omega)
    unfold getF; split <;> omega
theorem getF_nn {M : Int} {R n : Nat} {Z : Nat → Nat → Int} (h : OkP M R n Z) {p : Nat → Nat} (hp : ∀ i, i < R → p i < n) {k : Nat} (hk : k ≤ R) : 0 ≤ getF M Z p k := by
  refine getF_ge (by have := h.1; omega) k fun i hi => (h.2.2.2.2.2.2 i (by omega) (p i) (hp i (by omega))).1
theorem getF_congr {M : Int} {Z Y : Nat → Nat → Int} {p : Nat → Nat} : ∀ k, (∀ i, i < k → Z i (p i) = Y i (p i)) → getF M Z p k = getF M Y p k
  | 0, _ => rfl
  | k + 1, h => by
    have ih := getF_congr (M := M) k fun i hi => h i (by omega)
    have := h k (by omega)
    unfold getF; rw [ih, this]

/-- Items come, one behind the other. -/
def addsZ (S M : Int) (n : Nat) (Z : Nat → Nat → Int) (l : Nat → ByteArray) (q : Nat → Int) : Nat → Nat → Nat → Int
  | 0 => Z
  | k + 1 => addZ S M n (addsZ S M n Z l q k) (l k) (q k)
/-- What comes to a cell. -/
def sumZ (S : Int) (n : Nat) (l : Nat → ByteArray) (q : Nat → Int) (i j : Nat) : Nat → Int
  | 0 => 0
  | k + 1 => sumZ S n l q i j k + if j = placeN S (l k) n i then q k else 0
theorem sumZ_nn {S : Int} {n : Nat} {l : Nat → ByteArray} {q : Nat → Int} {i j : Nat} : ∀ {k : Nat}, (∀ t, t < k → 0 ≤ q t) → 0 ≤ sumZ S n l q i j k
  | 0, _ => Int.le_refl _
  | k + 1, h => by
    have ih := sumZ_nn (S := S) (n := n) (l := l) (i := i) (j := j) (k := k) fun t ht => h t (by omega)
    have := h k (by omega)
    unfold sumZ; split <;> omega
theorem adds_sum {S M : Int} {n : Nat} {Z : Nat → Nat → Int} {l : Nat → ByteArray} {q : Nat → Int} {i j : Nat} (h1 : 0 ≤ Z i j) (h2 : Z i j ≤ M) : ∀ {k : Nat}, (∀ t, t < k → 0 ≤ q t) → addsZ S M n Z l q k i j = capF (Z i j + sumZ S n l q i j k) M
  | 0, _ => by unfold addsZ sumZ capF; split <;> omega
  | k + 1, h => by
    have ih := adds_sum (S := S) (n := n) (l := l) h1 h2 (k := k) fun t ht => h t (by omega)
    have hk := h k (by omega)
    have nn := sumZ_nn (S := S) (n := n) (l := l) (q := q) (i := i) (j := j) (k := k) fun t ht => h t (by omega)
    show (if j = placeN S (l k) n i then capF (addsZ S M n Z l q k i j + q k) M else addsZ S M n Z l q k i j) = capF (Z i j + (sumZ S n l q i j k + if j = placeN S (l k) n i then q k else 0)) M
    rw [ih]
    generalize sumZ S n l q i j k = s at *
    generalize Z i j = z at *
    split
    · unfold capF; (repeat' split) <;> omega
    · rw [Int.add_zero]
theorem OkP.adds {S M : Int} {R n : Nat} {Z : Nat → Nat → Int} (h : OkP M R n Z) (l : Nat → ByteArray) {q : Nat → Int} : ∀ {k : Nat}, (∀ t, t < k → 0 ≤ q t) → OkP M R n (addsZ S M n Z l q k)
  | 0, _ => h
  | k + 1, hq => (OkP.adds h l (k := k) fun t ht => hq t (by omega)).add _ (hq k (by omega))
/-- The order does not matter. -/
theorem adds_turn {S M : Int} {R n : Nat} {Z : Nat → Nat → Int} (h : OkP M R n Z) (l m : Nat → ByteArray) {q r : Nat → Int} {a b : Nat} (hq : ∀ t, t < a → 0 ≤ q t) (hr : ∀ t, t < b → 0 ≤ r t) {i j : Nat} (hi : i < R) (hj : j < n) :
    addsZ S M n (addsZ S M n Z l q a) m r b i j = addsZ S M n (addsZ S M n Z m r b) l q a i j := by
  obtain ⟨z0, z1⟩ := h.2.2.2.2.2.2 i hi j hj
  obtain ⟨y0, y1⟩ := (h.adds (S := S) l hq).2.2.2.2.2.2 i hi j hj
  obtain ⟨x0, x1⟩ := (h.adds (S := S) m hr).2.2.2.2.2.2 i hi j hj
  rw [adds_sum y0 y1 hr, adds_sum x0 x1 hq, adds_sum z0 z1 hq, adds_sum z0 z1 hr]
  have n1 := sumZ_nn (S := S) (n := n) (l := l) (i := i) (j := j) hq
  have n2 := sumZ_nn (S := S) (n := n) (l := m) (i := i) (j := j) hr
  generalize sumZ S n l q i j a = s at *
  generalize sumZ S n m r i j b = t at *
  clear y0 y1 x0 x1
  generalize Z i j = z at *
  unfold capF; (repeat' split) <;> omega
/-- Two sketches merged are one to which all was added. -/
theorem adds_merge {S M : Int} {n : Nat} (l m : Nat → ByteArray) {q r : Nat → Int} {a b : Nat} (hM : 1 ≤ M) (hq : ∀ t, t < a → 0 ≤ q t) (hr : ∀ t, t < b → 0 ≤ r t) {i j : Nat} :
    addsZ S M n (addsZ S M n (fun _ _ => 0) l q a) m r b i j = mergeZ M (addsZ S M n (fun _ _ => 0) l q a) (addsZ S M n (fun _ _ => 0) m r b) i j := by
  have y0 : 0 ≤ addsZ S M n (fun _ _ => 0) l q a i j ∧ addsZ S M n (fun _ _ => 0) l q a i j ≤ M := by
    rw [adds_sum (Int.le_refl _) (by omega) hq]
    have n1 := sumZ_nn (S := S) (n := n) (l := l) (i := i) (j := j) hq
    unfold capF; split <;> omega
  rw [adds_sum y0.1 y0.2 hr]
  show _ = capF _ M
  rw [adds_sum (Z := fun _ _ => 0) (i := i) (j := j) (Int.le_refl _) (by omega) hq, adds_sum (Z := fun _ _ => 0) (i := i) (j := j) (Int.le_refl _) (by omega) hr]
  have n1 := sumZ_nn (S := S) (n := n) (l := l) (i := i) (j := j) hq
  have n2 := sumZ_nn (S := S) (n := n) (l := m) (i := i) (j := j) hr
  generalize sumZ S n l q i j a = s at *
  generalize sumZ S n m r i j b = t at *
  clear y0
  unfold capF; (repeat' split) <;> omega
/-- What came for a key itself. -/
def ownF (l : Nat → ByteArray) (q : Nat → Int) (s : ByteArray) : Nat → Int
  | 0 => 0
  | k + 1 => ownF l q s k + if l k = s then q k else 0
theorem own_nn {l : Nat → ByteArray} {q : Nat → Int} {s : ByteArray} : ∀ {k : Nat}, (∀ t, t < k → 0 ≤ q t) → 0 ≤ ownF l q s k
  | 0, _ => Int.le_refl _
  | k + 1, h => by
    have ih := own_nn (l := l) (s := s) (k := k) fun t ht => h t (by omega)
    have := h k (by omega)
    unfold ownF; split <;> omega
theorem own_le {S : Int} {n : Nat} {l : Nat → ByteArray} {q : Nat → Int} {s : ByteArray} {i : Nat} : ∀ {k : Nat}, (∀ t, t < k → 0 ≤ q t) → ownF l q s k ≤ sumZ S n l q i (placeN S s n i) k
  | 0, _ => Int.le_refl _
  | k + 1, h => by
    have ih := own_le (S := S) (n := n) (l := l) (s := s) (i := i) (k := k) fun t ht => h t (by omega)
    have := h k (by omega)
    unfold ownF sumZ
    by_cases e : l k = s
    · rw [if_pos e, e, if_pos rfl]; omega
    · rw [if_neg e]; split <;> omega
theorem own_le_nat {l : Nat → ByteArray} {q : Nat → Int} {s : ByteArray} {m : Int} (hm : 0 ≤ m) : ∀ {k : Nat}, (∀ t, t < k → 0 ≤ q t ∧ q t ≤ m) → ownF l q s k ≤ k * m
  | 0, _ => by show (0 : Int) ≤ ((0 : Nat) : Int) * m; simp
  | k + 1, h => by
    have ih := own_le_nat (l := l) (s := s) hm (k := k) fun t ht => h t (by omega)
    have := h k (by omega)
    have e : ((k + 1 : Nat) : Int) * m = k * m + m := by rw [Int.natCast_add, Int.add_mul]; simp
    rw [e]
    unfold ownF; split <;> omega
theorem sum_le_nat {S : Int} {n : Nat} {l : Nat → ByteArray} {q : Nat → Int} {i j : Nat} {m : Int} (hm : 0 ≤ m) : ∀ {k : Nat}, (∀ t, t < k → 0 ≤ q t ∧ q t ≤ m) → sumZ S n l q i j k ≤ k * m
  | 0, _ => by show (0 : Int) ≤ ((0 : Nat) : Int) * m; simp
  | k + 1, h => by
    have ih := sum_le_nat (S := S) (n := n) (l := l) (i := i) (j := j) hm (k := k) fun t ht => h t (by omega)
    have := h k (by omega)
    have e : ((k + 1 : Nat) : Int) * m = k * m + m := by rw [Int.natCast_add, Int.add_mul]; simp
    rw [e]
    unfold sumZ; split <;> omega
/-- What is told of a key is at least what was added for it, if it is not full. -/
theorem get_own {S M : Int} {R n : Nat} {l : Nat → ByteArray} {q : Nat → Int} {s : ByteArray} {k : Nat} (hM : 1 ≤ M) (hq : ∀ t, t < k → 0 ≤ q t) (hlt : getF M (addsZ S M n (fun _ _ => 0) l q k) (placeN S s n) R < M) :
    ownF l q s k ≤ getF M (addsZ S M n (fun _ _ => 0) l q k) (placeN S s n) R := by
  have h := getF_ge (M := M) (Z := addsZ S M n (fun _ _ => 0) l q k) (p := placeN S s n) (x := capF (ownF l q s k) M) (capF_le _ _).1 R fun i hi => by
    rw [adds_sum (Z := fun _ _ => 0) (i := i) (Int.le_refl _) (by omega) hq]
    have := own_le (S := S) (n := n) (l := l) (s := s) (i := i) hq
    unfold capF; (repeat' split) <;> omega
  have := capF_min (ownF l q s k) M
  omega
/-- And at most that, and for each row what was added for other keys of its cell there. -/
theorem get_all {S M : Int} {R n : Nat} {l : Nat → ByteArray} {q : Nat → Int} {s : ByteArray} {k i : Nat} (hM : 1 ≤ M) (hq : ∀ t, t < k → 0 ≤ q t) (hi : i < R) :
    getF M (addsZ S M n (fun _ _ => 0) l q k) (placeN S s n) R ≤ sumZ S n l q i (placeN S s n i) k := by
  have h := (getF_le M (addsZ S M n (fun _ _ => 0) l q k) (placeN S s n) R).2 i hi
  rw [adds_sum (Z := fun _ _ => 0) (i := i) (Int.le_refl _) (by omega) hq] at h
  have := capF_le ((0 : Int) + sumZ S n l q i (placeN S s n i) k) M
  omega
/-- What is told never falls. -/
theorem get_grows {S M : Int} {R n : Nat} {Z : Nat → Nat → Int} (h : OkP M R n Z) (s t : ByteArray) {q : Int} (hq : 0 ≤ q) :
    getF M Z (placeN S t n) R ≤ getF M (addZ S M n Z s q) (placeN S t n) R := by
  obtain ⟨h1, _, _, _, h5, _, h7⟩ := h
  refine getF_ge (getF_le _ _ _ _).1 R fun i hi => ?_
  have a := (getF_le M Z (placeN S t n) R).2 i hi
  have b := h7 i hi (placeN S t n i) (placeN_lt S t n i h5)
  unfold addZ
  split
  · unfold capF; split <;> omega
  · exact a
/-- And grows by no more than what comes. -/
theorem get_slow {S M : Int} {R n : Nat} {Z : Nat → Nat → Int} (h : OkP M R n Z) (s t : ByteArray) {q : Int} (hq : 0 ≤ q) :
    getF M (addZ S M n Z s q) (placeN S t n) R ≤ getF M Z (placeN S t n) R + q := by
  have h := getF_ge (M := M) (Z := Z) (p := placeN S t n) (x := getF M (addZ S M n Z s q) (placeN S t n) R - q) (by have := (getF_le M (addZ S M n Z s q) (placeN S t n) R).1; omega) R fun i hi => by
    have a := (getF_le M (addZ S M n Z s q) (placeN S t n) R).2 i hi
    have b : addZ S M n Z s q i (placeN S t n i) ≤ Z i (placeN S t n i) + q := by
      unfold addZ
      split
      · exact (capF_le _ _).2
      · omega
    omega
  omega
/-- What comes for the key itself is told of it. -/
theorem get_more {S M : Int} {R n : Nat} {Z : Nat → Nat → Int} (h : OkP M R n Z) (s : ByteArray) {q : Int} (hq : 0 ≤ q) :
    capF (getF M Z (placeN S s n) R + q) M ≤ getF M (addZ S M n Z s q) (placeN S s n) R := by
  refine getF_ge (capF_le _ _).1 R fun i hi => ?_
  have a := (getF_le M Z (placeN S s n) R).2 i hi
  show _ ≤ (if placeN S s n i = placeN S s n i then capF (Z i (placeN S s n i) + q) M else Z i (placeN S s n i))
  rw [if_pos rfl]
  unfold capF; (repeat' split) <;> omega
end Go.Proofs.Ytihealembikkiaa.Lt
