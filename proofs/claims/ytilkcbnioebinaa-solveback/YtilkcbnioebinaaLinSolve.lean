/-
  How a table is brought to a form in which its first rows lead, how a base of rows is taken up, and what a solution is: plain mathematics, nothing of the program is in this text.
-/
import Derived.Test.YtilkcbnioebinaaLinNum
namespace Go.Proofs.Ytilkcbnioebinaa.Fm

/-! ### Steps on a table -/
def swapZ (Z : Nat → Nat → Int) (a b : Nat) : Nat → Nat → Int := fun i => if i = a then Z b else if i = b then Z a else Z i
def scaleZ (Z : Nat → Nat → Int) (n : Nat) (k : Int) : Nat → Nat → Int := fun i j => if i = n then mulF (Z n j) k else Z i j
def elimZ (Z : Nat → Nat → Int) (n c m : Nat) : Nat → Nat → Int := fun i j => if i < m ∧ i ≠ n then subF (Z i j) (mulF (Z i c) (Z n j)) else Z i j
def Rng (R W : Nat) (Z : Nat → Nat → Int) : Prop := ∀ i, i < R → ∀ j, j < W → 0 ≤ Z i j ∧ Z i j < 2305843009213693951

theorem swap_mut {R W a b : Nat} (Z : Nat → Nat → Int) (ha : a < R) (hb : b < R) : Mut R W Z (swapZ Z a b) := by
  refine ⟨fun r hr => ?_, fun r hr => ?_⟩
  · unfold swapZ
    split
    · exact Sp.row hb
    · split
      · exact Sp.row ha
      · exact Sp.row hr
  · by_cases h1 : r = a
    · have := Sp.row (C := W) (Z := swapZ Z a b) hb
      by_cases h2 : b = a
      · refine (Sp.row (Z := swapZ Z a b) ha).congr fun j _ => ?_
        simp [swapZ, h1, h2]
      · refine this.congr fun j _ => ?_
        simp [swapZ, h1, h2]
    · by_cases h2 : r = b
      · refine (Sp.row (Z := swapZ Z a b) ha).congr fun j _ => ?_
        simp [swapZ, h2]
      · refine (Sp.row (Z := swapZ Z a b) hr).congr fun j _ => ?_
        simp [swapZ, h1, h2]
theorem scale_mut {R W n : Nat} (Z : Nat → Nat → Int) (hn : n < R) (k k' : Int) (hk : oF (k' * k) = 1) : Mut R W Z (scaleZ Z n k) := by
  refine ⟨fun r hr => ?_, fun r hr => ?_⟩
  · by_cases h : r = n
    · refine ((Sp.row (Z := Z) hn).smul k).congr fun j _ => ?_
      simp only [scaleZ, if_pos h, al_mulF, Int.mul_comm]
    · refine (Sp.row (Z := Z) hr).congr fun j _ => ?_
      simp only [scaleZ, if_neg h]
  · by_cases h : r = n
    · refine ((Sp.row (Z := scaleZ Z n k) hn).smul k').congr fun j _ => ?_
      simp only [scaleZ, if_true, h]
      rw [al_mul (rfl : oF k' = oF k') (al_mulF (Z n j) k), Int.mul_left_comm]
      have := al_mul (rfl : oF (Z n j) = oF (Z n j)) (hk.trans (by decide : (1 : Int) = oF 1))
      rw [this, Int.mul_one]
    · refine (Sp.row (Z := scaleZ Z n k) hr).congr fun j _ => ?_
      simp only [scaleZ, if_neg h]
theorem elim_mut {R W n c m : Nat} (Z : Nat → Nat → Int) (hn : n < R) : Mut R W Z (elimZ Z n c m) := by
  have en : ∀ j, elimZ Z n c m n j = Z n j := fun j => by simp [elimZ]
  refine ⟨fun r hr => ?_, fun r hr => ?_⟩
  · by_cases h : r < m ∧ r ≠ n
    · refine (Sp.lin (-(Z r c)) (Sp.row (Z := Z) hr) (Sp.row (Z := Z) hn)).congr fun j _ => ?_
      simp only [elimZ, if_pos h]
      rw [al_subF, al_sub rfl (al_mulF (Z r c) (Z n j)), Int.neg_mul, Int.sub_eq_add_neg]
    · refine (Sp.row (Z := Z) hr).congr fun j _ => ?_
      simp only [elimZ, if_neg h]
  · by_cases h : r < m ∧ r ≠ n
    · refine (Sp.lin (Z r c) (Sp.row (Z := elimZ Z n c m) hr) (Sp.row (Z := elimZ Z n c m) hn)).congr fun j _ => ?_
      try dsimp only
      rw [en]
      simp only [elimZ, if_pos h]
      rw [al_add (al_subF _ _) rfl, al_add (al_sub rfl (al_mulF (Z r c) (Z n j))) rfl]
      exact congrArg oF (by omega)
    · refine (Sp.row (Z := elimZ Z n c m) hr).congr fun j _ => ?_
      simp only [elimZ, if_neg h]
theorem swap_rng {R W a b : Nat} {Z : Nat → Nat → Int} (h : Rng R W Z) (ha : a < R) (hb : b < R) : Rng R W (swapZ Z a b) := fun i hi j hj => by
  unfold swapZ
  split
  · exact h b hb j hj
  · split
    · exact h a ha j hj
    · exact h i hi j hj
theorem scale_rng {R W n : Nat} {Z : Nat → Nat → Int} (h : Rng R W Z) (k : Int) : Rng R W (scaleZ Z n k) := fun i hi j hj => by
  unfold scaleZ
  split
  · exact ⟨mulF_nn _ _, mulF_lt _ _⟩
  · exact h i hi j hj
theorem elim_rng {R W n c m : Nat} {Z : Nat → Nat → Int} (h : Rng R W Z) : Rng R W (elimZ Z n c m) := fun i hi j hj => by
  unfold elimZ
  split
  · exact ⟨subF_nn _ _, subF_lt _ _⟩
  · exact h i hi j hj

/-! ### The form -/
structure Gj (R c n : Nat) (l : Nat → Nat) (Z : Nat → Nat → Int) : Prop where
  le : n ≤ R
  lt : ∀ i, i < n → l i < c
  up : ∀ i k, i < k → k < n → l i < l k
  one : ∀ i, i < n → Z i (l i) = 1
  pre : ∀ i, i < n → ∀ j, j < l i → Z i j = 0
  col : ∀ i, i < n → ∀ k, k < R → k ≠ i → Z k (l i) = 0
  low : ∀ i, n ≤ i → i < R → ∀ j, j < c → Z i j = 0

theorem Gj.start (R : Nat) (Z : Nat → Nat → Int) : Gj R 0 0 (fun _ => 0) Z :=
  ⟨by omega, fun i h => by omega, fun i k _ h => by omega, fun i h => by omega, fun i h => by omega, fun i h => by omega, fun i _ _ j h => by omega⟩
theorem Gj.none {R c n : Nat} {l : Nat → Nat} {Z : Nat → Nat → Int} (h : Gj R c n l Z) (k : ∀ i, n ≤ i → i < R → Z i c = 0) : Gj R (c + 1) n l Z :=
  ⟨h.le, fun i hi => by have := h.lt i hi; omega, h.up, h.one, h.pre, h.col, fun i h1 h2 j hj => by
    by_cases e : j = c
    · rw [e]; exact k i h1 h2
    · exact h.low i h1 h2 j (by omega)⟩
theorem Gj.swap {R c n f : Nat} {l : Nat → Nat} {Z : Nat → Nat → Int} (h : Gj R c n l Z) (h1 : n ≤ f) (h2 : f < R) : Gj R c n l (swapZ Z n f) := by
  have low : ∀ i, i < n → swapZ Z n f i = Z i := fun i hi => by unfold swapZ; rw [if_neg (by omega), if_neg (by omega)]
  have high : ∀ i, n ≤ i → i < R → ∃ q, n ≤ q ∧ q < R ∧ swapZ Z n f i = Z q := fun i h3 h4 => by
    unfold swapZ
    split
    · exact ⟨f, h1, h2, rfl⟩
    · split
      · exact ⟨n, by omega, by omega, rfl⟩
      · exact ⟨i, h3, h4, rfl⟩
  refine ⟨h.le, h.lt, h.up, fun i hi => by rw [low i hi]; exact h.one i hi, fun i hi => by rw [low i hi]; exact h.pre i hi, fun i hi k hk hne => ?_, fun i h3 h4 j hj => ?_⟩
  · by_cases e : k < n
    · rw [low k e]; exact h.col i hi k hk hne
    · obtain ⟨q, q1, q2, e⟩ := high k (by omega) hk
      rw [e]; exact h.col i hi q q2 (by omega)
  · obtain ⟨q, q1, q2, e⟩ := high i h3 h4
    rw [e]; exact h.low q q1 q2 j hj
theorem mulF_z (a : Int) : mulF a 0 = 0 := by unfold mulF; rw [Int.mul_zero]; rfl
theorem z_mulF (a : Int) : mulF 0 a = 0 := by unfold mulF; rw [Int.zero_mul]; rfl
theorem subF_z {a : Int} (h0 : 0 ≤ a) (h1 : a < 2305843009213693951) : subF a 0 = a := by unfold subF; omega
theorem mulF_1 {a : Int} (h0 : 0 ≤ a) (h1 : a < 2305843009213693951) : mulF a 1 = a := by unfold mulF; omega
theorem Gj.more {R W c n : Nat} {l : Nat → Nat} {Z : Nat → Nat → Int} (h : Gj R c n l Z) (hr : Rng R W Z) (hc : c < W) (hn : n < R) (hz : Z n c ≠ 0) :
    Gj R (c + 1) (n + 1) (fun i => if i < n then l i else c) (elimZ (scaleZ Z n (powF (Z n c) 2305843009213693949)) n c R) := by
  obtain ⟨z0, z1⟩ := hr n hn c hc
  have inv : mulF (Z n c) (powF (Z n c) 2305843009213693949) = 1 := inverse_F _ z0 (by rw [oF_id z0 z1]; exact hz)
  generalize powF (Z n c) 2305843009213693949 = k at inv
  have en : ∀ j, elimZ (scaleZ Z n k) n c R n j = mulF (Z n j) k := fun j => by simp [elimZ, scaleZ]
  have eo : ∀ i, i < R → i ≠ n → ∀ j, elimZ (scaleZ Z n k) n c R i j = subF (Z i j) (mulF (Z i c) (mulF (Z n j) k)) := fun i hi hne j => by simp [elimZ, scaleZ, hi, hne]
  have nlow : ∀ j, j < c → mulF (Z n j) k = 0 := fun j hj => by rw [h.low n (Nat.le_refl _) hn j hj, z_mulF]
  have keep : ∀ i, i < R → i ≠ n → ∀ j, j < c → elimZ (scaleZ Z n k) n c R i j = Z i j := fun i hi hne j hj => by
    obtain ⟨a, b⟩ := hr i hi j (by omega)
    rw [eo i hi hne, nlow j hj, mulF_z, subF_z a b]
  have gone : ∀ i, i < R → i ≠ n → elimZ (scaleZ Z n k) n c R i c = 0 := fun i hi hne => by
    obtain ⟨a, b⟩ := hr i hi c hc
    rw [eo i hi hne, inv, mulF_1 a b]; unfold subF; omega
  refine ⟨by omega, fun i hi => ?_, fun i q h1 h2 => ?_, fun i hi => ?_, fun i hi j hj => ?_, fun i hi q hq hne => ?_, fun i h1 h2 j hj => ?_⟩
  · try dsimp only
    split
    · have := h.lt i (by omega); omega
    · omega
  · try dsimp only
    by_cases e : q < n
    · rw [if_pos (by omega), if_pos e]; exact h.up i q h1 e
    · rw [if_pos (by omega), if_neg e]; exact h.lt i (by omega)
  · try dsimp only
    by_cases e : i < n
    · rw [if_pos e, keep i (by have := h.le; omega) (by omega) _ (h.lt i e)]; exact h.one i e
    · have e' : i = n := by omega
      subst e'
      rw [if_neg e, en]; exact inv
  · try dsimp only at hj
    by_cases e : i < n
    · rw [if_pos e] at hj
      have := h.lt i e
      rw [keep i (by omega) (by omega) _ (by omega)]; exact h.pre i e j hj
    · have e' : i = n := by omega
      subst e'
      rw [if_neg e] at hj
      rw [en]; exact nlow j hj
  · try dsimp only
    by_cases e : i < n
    · have := h.lt i e
      rw [if_pos e]
      by_cases eq : q = n
      · subst eq; rw [en]; exact nlow _ this
      · rw [keep q hq eq _ this]; exact h.col i e q hq hne
    · rw [if_neg e]
      exact gone q hq (by omega)
  · by_cases e : j = c
    · subst e; exact gone i h2 (by omega)
    · rw [keep i h2 (by omega) _ (by omega)]; exact h.low i (by omega) h2 j (by omega)

theorem Gj.inj {R c n : Nat} {l : Nat → Nat} {Z : Nat → Nat → Int} (h : Gj R c n l Z) : ∀ i k, i < n → k < n → l i = l k → i = k := fun i k h1 h2 e => by
  rcases Nat.lt_trichotomy i k with g | g | g
  · have := h.up i k g h2; omega
  · exact g
  · have := h.up k i g h1; omega
theorem Gj.ld {R c n : Nat} {l : Nat → Nat} {Z : Nat → Nat → Int} (h : Gj R c n l Z) {C : Nat} (hC : c ≤ C) : ∀ i, i < n → Ld C (Z i) (l i) := fun i hi =>
  ⟨by have := h.lt i hi; omega, by rw [h.one i hi]; decide, fun j hj => by rw [h.pre i hi j hj]; rfl⟩
theorem Gj.rk {R C n : Nat} {l : Nat → Nat} {Z Z' : Nat → Nat → Int} (h : Gj R C n l Z') (m : Mut R C Z Z') : Rk R C Z n := by
  refine Rk.of (B := Z') (h.ld (Nat.le_refl _)) h.inj (fun i hi => m.1 i (by have := h.le; omega)) fun r hr => (m.2 r hr).mono fun q hq => ?_
  by_cases e : q < n
  · exact Sp.row e
  · exact .zero _ fun j hj => by rw [h.low q (by omega) hq j hj]; rfl
theorem Gj.same {R C n : Nat} {l : Nat → Nat} {Z Z' : Nat → Nat → Int} (h : Gj R C n l Z') (m : Mut R (C + 1) Z Z') (k : ∀ i, n ≤ i → i < R → Z' i C = 0) : Rk R (C + 1) Z n := (h.none k).rk m
theorem Gj.wide {R C n q : Nat} {l : Nat → Nat} {Z Z' : Nat → Nat → Int} (h : Gj R C n l Z') (m : Mut R (C + 1) Z Z') (h1 : n ≤ q) (h2 : q < R) (hz : oF (Z' q C) ≠ 0) (hnn : 0 ≤ Z' q C) : Rk R (C + 1) Z (n + 1) := by
  refine Rk.of (B := fun i => if i < n then Z' i else Z' q) (l := fun i => if i < n then l i else C) (fun i hi => ?_) (fun i k hi hk e => ?_) (fun i hi => ?_) fun r hr => (m.2 r hr).mono fun p hp => ?_
  · try dsimp only
    split
    · exact h.ld (by omega) i (by omega)
    · exact ⟨by omega, hz, fun j hj => by rw [h.low q h1 h2 j hj]; rfl⟩
  · try dsimp only at e
    split at e <;> split at e
    · exact h.inj i k (by omega) (by omega) e
    · have := h.lt i (by omega); omega
    · have := h.lt k (by omega); omega
    · omega
  · try dsimp only
    split
    · exact m.1 i (by have := h.le; omega)
    · exact m.1 q h2
  · by_cases e : p < n
    · refine (Sp.row (Z := fun i => if i < n then Z' i else Z' q) (r := p) (by omega)).congr fun j _ => ?_
      simp only [if_pos e]
    · refine ((Sp.row (Z := fun i => if i < n then Z' i else Z' q) (r := n) (by omega)).smul (Z' p C * powF (Z' q C) 2305843009213693949)).congr fun j hj => ?_
      try dsimp only
      rw [if_neg (by omega)]
      by_cases ej : j = C
      · subst ej
        have i1 := inv_al (Z' q j) hnn hz
        rw [Int.mul_assoc, Int.mul_comm (powF _ _), al_mul rfl (i1.trans (by decide : (1 : Int) = oF 1)), Int.mul_one]
      · rw [h.low p (by omega) hp j (by omega), h.low q h1 h2 j (by omega), Int.mul_zero]

/-! ### Sums of products -/
def dotN (v x : Nat → Int) : Nat → Int
  | 0 => 0
  | n + 1 => dotN v x n + v n * x n
theorem dot_lin (u z x : Nat → Int) (c : Int) : ∀ n, dotN (fun j => u j + c * z j) x n = dotN u x n + c * dotN z x n
  | 0 => by simp [dotN]
  | n + 1 => by simp only [dotN, dot_lin u z x c n, Int.add_mul, Int.mul_add, Int.mul_assoc]; omega
theorem dot_congr {v v' x x' : Nat → Int} : ∀ n, (∀ j, j < n → oF (v j) = oF (v' j)) → (∀ j, j < n → oF (x j) = oF (x' j)) → oF (dotN v x n) = oF (dotN v' x' n)
  | 0, _, _ => rfl
  | n + 1, h, k => al_add (dot_congr n (fun j hj => h j (by omega)) fun j hj => k j (by omega)) (al_mul (h n (by omega)) (k n (by omega)))
theorem dot_add (v x y : Nat → Int) : ∀ n, dotN v (fun j => x j + y j) n = dotN v x n + dotN v y n
  | 0 => rfl
  | n + 1 => by simp only [dotN, dot_add v x y n, Int.mul_add]; omega
theorem dot_zero {v x : Nat → Int} : ∀ n, (∀ j, j < n → v j = 0) → dotN v x n = 0
  | 0, _ => rfl
  | n + 1, h => by rw [dotN, dot_zero n (fun j hj => h j (by omega)), h n (by omega), Int.zero_mul]; rfl
theorem dot_unit {v x : Nat → Int} {i : Nat} : ∀ n, i < n → (∀ j, j < n → v j = if j = i then 1 else 0) → dotN v x n = x i
  | 0, h, _ => by omega
  | n + 1, h, k => by
    by_cases e : i = n
    · subst e
      rw [dotN, dot_zero i (fun j hj => by rw [k j (by omega), if_neg (by omega)]), k i (by omega), if_pos rfl]; omega
    · rw [dotN, dot_unit n (by omega) (fun j hj => k j (by omega)), k n (by omega), if_neg (by omega)]; omega
theorem dot_step (v x : Nat → Int) (n : Nat) : addF (oF (dotN v x n)) (mulF (v n) (x n)) = oF (dotN v x (n + 1)) := by
  have h := al_addF (oF (dotN v x n)) (mulF (v n) (x n))
  have e := al_add (oF_oF (dotN v x n)) (al_mulF (v n) (x n))
  rw [oF_id (addF_nn _ _) (addF_lt _ _)] at h
  exact h.trans e
theorem sp_dot {R C : Nat} {Z : Nat → Nat → Int} {x v : Nat → Int} (h : ∀ r, r < R → oF (dotN (Z r) x C) = oF (Z r C)) (k : Sp R (C + 1) Z v) : oF (dotN v x C) = oF (v C) := by
  induction k using Sp.ind with
  | zero v hv =>
    rw [hv C (by omega), dot_congr (v' := fun _ => 0) (x' := x) C (fun j hj => (hv j (by omega)).trans oF_zero.symm) (fun _ _ => rfl), dot_zero C (fun _ _ => rfl)]; rfl
  | step v u r c hr _ hv ih =>
    rw [hv C (by omega), dot_congr C (fun j hj => hv j (by omega)) (fun _ _ => rfl), dot_lin]
    exact al_add ih (al_mul rfl (h r hr))

theorem Gj.gap {R c n : Nat} {l : Nat → Nat} {Z : Nat → Nat → Int} (h : Gj R c n l Z) : ∀ d i, i + d < n → l i + d ≤ l (i + d)
  | 0, _, _ => Nat.le_refl _
  | d + 1, i, hi => by
    have a := h.gap d i (by omega)
    have b := h.up (i + d) (i + d + 1) (by omega) (by omega)
    rw [show i + (d + 1) = i + d + 1 by omega]; omega
theorem Gj.full {R C : Nat} {l : Nat → Nat} {Z : Nat → Nat → Int} (h : Gj R C C l Z) (i : Nat) (hi : i < C) : l i = i := by
  have a := h.gap (C - 1 - i) i (by omega)
  have b := h.gap i 0 (by omega)
  have c := h.lt (i + (C - 1 - i)) (by omega)
  rw [Nat.zero_add] at b
  omega
theorem Gj.unit {R C : Nat} {l : Nat → Nat} {Z : Nat → Nat → Int} (h : Gj R C C l Z) (i : Nat) (hi : i < C) : ∀ j, j < C → Z i j = if j = i then 1 else 0 := fun j hj => by
  have e := h.full j hj
  split
  · next e' => subst e'; have := h.one j hj; rw [e] at this; exact this
  · have := h.col j hj i (by have := h.le; omega) (by omega); rw [e] at this; exact this
/-- What is told is a solution. -/
theorem Gj.told {R C : Nat} {l : Nat → Nat} {Z Z' : Nat → Nat → Int} (h : Gj R C C l Z') (m : Mut R (C + 1) Z Z') (k : ∀ i, C ≤ i → i < R → Z' i C = 0) (r : Nat) (hr : r < R) :
    oF (dotN (Z r) (fun i => Z' i C) C) = oF (Z r C) := by
  refine sp_dot (fun q hq => ?_) (m.2 r hr)
  by_cases e : q < C
  · rw [dot_unit C e (h.unit q e)]
  · rw [k q (by omega) hq, dot_zero C (h.low q (by omega) hq)]
/-- Of what numbers make the solution is these numbers. -/
theorem Gj.back {R C n : Nat} {l : Nat → Nat} {Z Z' : Nat → Nat → Int} {x : Nat → Int} (h : Gj R C n l Z') (m : Mut R (C + 1) Z Z') (k : ∀ r, r < R → oF (dotN (Z r) x C) = oF (Z r C)) :
    (∀ i, n ≤ i → i < R → oF (Z' i C) = 0) ∧ (n = C → ∀ i, i < C → oF (Z' i C) = oF (x i)) := by
  have e := fun i hi => sp_dot k (m.1 i hi)
  refine ⟨fun i h1 h2 => ?_, fun hn i hi => ?_⟩
  · rw [← e i h2, dot_zero C (h.low i h1 h2)]; rfl
  · subst hn
    rw [← e i (by have := h.le; omega), dot_unit n hi (h.unit i hi)]

/-! ### A base of rows, taken up one by one -/
def lessF (B : Nat → Nat → Int) (l : Nat → Nat) (v : Nat → Int) : Nat → Nat → Int
  | 0 => v
  | k + 1 => fun j => subF (lessF B l v k j) (mulF (mulF (lessF B l v k (l k)) (powF (B k (l k)) 2305843009213693949)) (B k j))
theorem less_al (B : Nat → Nat → Int) (l : Nat → Nat) (v : Nat → Int) (k j : Nat) :
    oF (lessF B l v (k + 1) j) = oF (lessF B l v k j + -(lessF B l v k (l k) * powF (B k (l k)) 2305843009213693949) * B k j) := by
  show oF (subF _ _) = _
  rw [al_subF, al_sub rfl (al_mulF _ _), al_sub rfl (al_mul (al_mulF _ _) rfl), Int.neg_mul, Int.sub_eq_add_neg]
structure Bs (n C : Nat) (B : Nat → Nat → Int) (l : Nat → Nat) : Prop where
  ld : ∀ i, i < n → Ld C (B i) (l i)
  tri : ∀ k i, k < i → i < n → oF (B i (l k)) = 0
  nn : ∀ i, i < n → ∀ j, j < C → 0 ≤ B i j
theorem Bs.inj {n C : Nat} {B : Nat → Nat → Int} {l : Nat → Nat} (h : Bs n C B l) : ∀ i k, i < n → k < n → l i = l k → i = k := fun i k h1 h2 e => by
  rcases Nat.lt_trichotomy i k with g | g | g
  · exact absurd (by rw [← e]; exact h.tri i k g h2) (h.ld k h2).2.1
  · exact g
  · exact absurd (by rw [e]; exact h.tri k i g h1) (h.ld i h1).2.1
theorem Bs.zero {n C : Nat} {B : Nat → Nat → Int} {l : Nat → Nat} (h : Bs n C B l) (v : Nat → Int) : ∀ k, k ≤ n → ∀ q, q < k → oF (lessF B l v k (l q)) = 0
  | 0, _, q, hq => by omega
  | k + 1, hk, q, hq => by
    rw [less_al]
    by_cases e : q = k
    · subst e
      have i1 := inv_al (B q (l q)) (h.nn q (by omega) _ (h.ld q (by omega)).1) (h.ld q (by omega)).2.1
      rw [Int.neg_mul, Int.mul_assoc, Int.mul_comm (powF _ _), ← Int.sub_eq_add_neg, al_sub rfl (al_mul rfl (i1.trans (by decide : (1 : Int) = oF 1))), Int.mul_one, Int.sub_self]; rfl
    · rw [al_add ((h.zero v k (by omega) q (by omega)).trans oF_zero.symm) ((mul_z _ (h.tri q k (by omega) (by omega))).trans oF_zero.symm)]; rfl
theorem less_in {R C : Nat} {Z B : Nat → Nat → Int} {l : Nat → Nat} {v : Nat → Int} : ∀ k, (∀ i, i < k → Sp R C Z (B i)) → Sp R C Z v → Sp R C Z (lessF B l v k)
  | 0, _, h => h
  | k + 1, hB, h => (Sp.lin _ (less_in k (fun i hi => hB i (by omega)) h) (hB k (by omega))).congr fun j _ => less_al B l v k j
theorem less_out {R C : Nat} {Z B : Nat → Nat → Int} {l : Nat → Nat} {v : Nat → Int} : ∀ k, (∀ i, i < k → Sp R C Z (B i)) → Sp R C Z (lessF B l v k) → Sp R C Z v
  | 0, _, h => h
  | k + 1, hB, h => by
    refine less_out (l := l) k (fun i hi => hB i (by omega)) ((Sp.lin (lessF B l v k (l k) * powF (B k (l k)) 2305843009213693949) h (hB k (by omega))).congr fun j _ => ?_)
    rw [al_add (less_al B l v k j) rfl, Int.add_assoc, ← Int.add_mul, Int.add_left_neg, Int.zero_mul, Int.add_zero]
theorem less_nn {B : Nat → Nat → Int} {l : Nat → Nat} {v : Nat → Int} {C : Nat} (hv : ∀ j, j < C → 0 ≤ v j) : ∀ k j, j < C → 0 ≤ lessF B l v k j
  | 0, j, hj => hv j hj
  | _ + 1, _, _ => subF_nn _ _
theorem less_U {B : Nat → Nat → Int} {l : Nat → Nat} {v : Nat → Int} {C : Nat} (hv : ∀ j, j < C → U (v j)) : ∀ k j, j < C → U (lessF B l v k j)
  | 0, j, hj => hv j hj
  | _ + 1, _, _ => subF_U _ _

structure Based (i n C : Nat) (B : Nat → Nat → Int) (l : Nat → Nat) (Z : Nat → Nat → Int) : Prop where
  bs : Bs n C B l
  le : n ≤ i
  dn : ∀ q, q < n → Sp i C Z (B q)
  up : ∀ r, r < i → Sp n C B (Z r)
theorem Based.start (C : Nat) (B : Nat → Nat → Int) (l : Nat → Nat) (Z : Nat → Nat → Int) : Based 0 0 C B l Z :=
  ⟨⟨fun i h => by omega, fun _ i _ h => by omega, fun i h => by omega⟩, by omega, fun i h => by omega, fun i h => by omega⟩
theorem Based.none {i n C : Nat} {B : Nat → Nat → Int} {l : Nat → Nat} {Z : Nat → Nat → Int} (h : Based i n C B l Z) (k : ∀ j, j < C → oF (lessF B l (Z i) n j) = 0) : Based (i + 1) n C B l Z := by
  refine ⟨h.bs, by have := h.le; omega, fun q hq => (h.dn q hq).more (by omega), fun r hr => ?_⟩
  by_cases e : r = i
  · subst e
    exact less_out n (fun i hi => Sp.row hi) (.zero _ k)
  · exact h.up r (by omega)
theorem Based.more {i n C a : Nat} {B : Nat → Nat → Int} {l : Nat → Nat} {Z : Nat → Nat → Int} (h : Based i n C B l Z) (hz : ∀ j, j < C → 0 ≤ Z i j) (k : Ld C (lessF B l (Z i) n) a) :
    Based (i + 1) (n + 1) C (fun q => if q < n then B q else lessF B l (Z i) n) (fun q => if q < n then l q else a) Z := by
  have old : ∀ q, q < n → Sp (n + 1) C (fun q => if q < n then B q else lessF B l (Z i) n) (B q) := fun q hq => by
    refine (Sp.row (Z := fun q => if q < n then B q else lessF B l (Z i) n) (r := q) (by omega)).congr fun j _ => ?_
    simp only [if_pos hq]
  have new : Sp (n + 1) C (fun q => if q < n then B q else lessF B l (Z i) n) (lessF B l (Z i) n) := by
    refine (Sp.row (Z := fun q => if q < n then B q else lessF B l (Z i) n) (r := n) (by omega)).congr fun j _ => ?_
    simp only [if_neg (Nat.lt_irrefl n)]
  refine ⟨⟨fun q hq => ?_, fun q p h1 h2 => ?_, fun q hq j hj => ?_⟩, by have := h.le; omega, fun q hq => ?_, fun r hr => ?_⟩
  · try dsimp only
    split
    · exact h.bs.ld q (by omega)
    · exact k
  · try dsimp only
    rw [if_pos (by omega : q < n)]
    split
    · exact h.bs.tri q p h1 (by omega)
    · exact h.bs.zero _ n (Nat.le_refl _) q (by omega)
  · try dsimp only
    split
    · exact h.bs.nn q (by omega) j hj
    · exact less_nn hz n j hj
  · try dsimp only
    split
    · exact (h.dn q (by omega)).more (by omega)
    · exact less_in n (fun p hp => (h.dn p hp).more (by omega)) (Sp.row (by omega))
  · by_cases e : r = i
    · subst e
      exact less_out n old new
    · exact (h.up r (by omega)).mono fun p hp => old p hp
theorem Based.rk {R n C : Nat} {B : Nat → Nat → Int} {l : Nat → Nat} {Z : Nat → Nat → Int} (h : Based R n C B l Z) : Rk R C Z n := Rk.of h.bs.ld h.bs.inj h.dn h.up
theorem based_any (C : Nat) (Z : Nat → Nat → Int) : ∀ R, (∀ r, r < R → ∀ j, j < C → 0 ≤ Z r j) → ∃ n B l, Based R n C B l Z
  | 0, _ => ⟨0, fun _ _ => 0, fun _ => 0, Based.start C _ _ Z⟩
  | R + 1, hz => by
    obtain ⟨n, B, l, h⟩ := based_any C Z R fun r hr => hz r (by omega)
    rcases ld_or C (lessF B l (Z R) n) with k | ⟨a, k⟩
    · exact ⟨n, B, l, h.none k⟩
    · exact ⟨n + 1, _, _, h.more (hz R (by omega)) k⟩
theorem Rk.rows {R n C : Nat} {Z : Nat → Nat → Int} (h : Rk R C Z n) (hz : ∀ r, r < R → ∀ j, j < C → 0 ≤ Z r j) : n ≤ R := by
  obtain ⟨m, B, l, k⟩ := based_any C Z R hz
  rw [h.unique k.rk]; exact k.le
theorem Rk.succ {R n m C : Nat} {Z : Nat → Nat → Int} (h : Rk R C Z n) (h' : Rk (R + 1) C Z m) (hz : ∀ r, r < R + 1 → ∀ j, j < C → 0 ≤ Z r j) : n ≤ m ∧ m ≤ n + 1 := by
  obtain ⟨q, B, l, k⟩ := based_any C Z R fun r hr => hz r (by omega)
  have e := h.unique k.rk
  subst e
  rcases ld_or C (lessF B l (Z R) n) with k' | ⟨a, k'⟩
  · have := h'.unique (k.none k').rk; omega
  · have := h'.unique (k.more (hz R (by omega)) k').rk; omega

end Go.Proofs.Ytilkcbnioebinaa.Fm
