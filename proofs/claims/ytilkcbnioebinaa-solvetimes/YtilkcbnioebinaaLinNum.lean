/-
  Rows of numbers modulo 2^61 - 1: what is a sum of multiples of rows, where such sums lead, and the rank: plain mathematics, nothing of the program is in this text.
-/
import Derived.Test.YtilkcbnioebinaaNum
namespace Go.Proofs.Ytilkcbnioebinaa.Fm

/-! ### Numbers alike modulo the prime -/
theorem oF_oF (a : Int) : oF (oF a) = oF a := by unfold oF; omega
theorem oF_id {a : Int} (h0 : 0 ≤ a) (h1 : a < 2305843009213693951) : oF a = a := by unfold oF; omega
theorem oF_zero : oF 0 = 0 := rfl
theorem al_add {a b c d : Int} (h : oF a = oF b) (k : oF c = oF d) : oF (a + c) = oF (b + d) := by unfold oF at *; omega
theorem al_sub {a b c d : Int} (h : oF a = oF b) (k : oF c = oF d) : oF (a - c) = oF (b - d) := by unfold oF at *; omega
theorem al_mul {a b c d : Int} (h : oF a = oF b) (k : oF c = oF d) : oF (a * c) = oF (b * d) := by
  unfold oF at *; rw [Int.mul_emod a c, h, k, ← Int.mul_emod]
theorem al_mulF (a b : Int) : oF (mulF a b) = oF (a * b) := by unfold oF mulF; exact Int.emod_emod ..
theorem al_subF (a b : Int) : oF (subF a b) = oF (a - b) := by unfold oF subF; omega
theorem al_addF (a b : Int) : oF (addF a b) = oF (a + b) := by unfold oF addF; omega
theorem mul_z (c : Int) {a : Int} (h : oF a = 0) : oF (c * a) = 0 := by
  have := al_mul (rfl : oF c = oF c) (h.trans oF_zero.symm)
  rw [this, Int.mul_zero]; rfl
theorem mul_nz {a b : Int} (ha : oF a ≠ 0) (hb : oF b ≠ 0) : oF (a * b) ≠ 0 := by
  intro h
  have e : mulF (oF a) (oF b) = 0 := by rw [mulF_oF]; exact h
  rcases (zero_F (oF a) (oF b) (oF_nn a) (oF_nn b)).1 e with k | k
  · rw [oF_oF] at k; exact ha k
  · rw [oF_oF] at k; exact hb k
theorem inv_al (a : Int) (h0 : 0 ≤ a) (h : oF a ≠ 0) : oF (a * powF a 2305843009213693949) = 1 := by
  have := inverse_F a h0 h
  rw [← al_mulF, this]; rfl
theorem inv_nz (a : Int) (h0 : 0 ≤ a) (h : oF a ≠ 0) : oF (powF a 2305843009213693949) ≠ 0 := by
  intro k
  have e := inv_al a h0 h
  rw [mul_z a k] at e
  exact absurd e (by decide)

/-! ### Sums of multiples of rows -/
def Sp (R C : Nat) (Z : Nat → Nat → Int) (v : Nat → Int) : Prop :=
  ∀ P : (Nat → Int) → Prop, (∀ u, (∀ j, j < C → oF (u j) = 0) → P u) → (∀ t u r (c : Int), r < R → P u → (∀ j, j < C → oF (t j) = oF (u j + c * Z r j)) → P t) → P v
theorem Sp.zero {R C : Nat} {Z : Nat → Nat → Int} (v : Nat → Int) (h : ∀ j, j < C → oF (v j) = 0) : Sp R C Z v := fun _ z _ => z v h
theorem Sp.step {R C : Nat} {Z : Nat → Nat → Int} (v u : Nat → Int) (r : Nat) (c : Int) (hr : r < R) (hu : Sp R C Z u) (h : ∀ j, j < C → oF (v j) = oF (u j + c * Z r j)) : Sp R C Z v := fun P z s => s v u r c hr (hu P z s) h
theorem Sp.ind {R C : Nat} {Z : Nat → Nat → Int} {motive : (v : Nat → Int) → Sp R C Z v → Prop} (zero : ∀ v (h : ∀ j, j < C → oF (v j) = 0), motive v (Sp.zero v h))
    (step : ∀ v u r c (hr : r < R) (hu : Sp R C Z u) (h : ∀ j, j < C → oF (v j) = oF (u j + c * Z r j)), motive u hu → motive v (Sp.step v u r c hr hu h)) {v : Nat → Int} (h : Sp R C Z v) : motive v h := by
  obtain ⟨_, k⟩ := h (fun v => ∃ h : Sp R C Z v, motive v h) (fun u hu => ⟨Sp.zero u hu, zero u hu⟩) (fun t u r c hr ⟨hu, k⟩ e => ⟨Sp.step t u r c hr hu e, step t u r c hr hu e k⟩)
  exact k

section
variable {R R' C : Nat} {Z Z' : Nat → Nat → Int} {u v v' : Nat → Int}

theorem Sp.congr (h : Sp R C Z v) (e : ∀ j, j < C → oF (v' j) = oF (v j)) : Sp R C Z v' := by
  induction h using Sp.ind with
  | zero _ h => exact .zero _ fun j hj => (e j hj).trans (h j hj)
  | step _ u r c hr hu h _ => exact .step _ u r c hr hu fun j hj => (e j hj).trans (h j hj)
theorem Sp.add (h : Sp R C Z u) (k : Sp R C Z v) : Sp R C Z (fun j => u j + v j) := by
  induction k using Sp.ind with
  | zero v hv => exact h.congr fun j hj => by rw [al_add rfl ((hv j hj).trans oF_zero.symm), Int.add_zero]
  | step v v0 r c hr _ hv ih => exact .step _ _ r c hr ih fun j hj => by rw [al_add rfl (hv j hj), Int.add_assoc]
theorem Sp.smul (c : Int) (k : Sp R C Z v) : Sp R C Z (fun j => c * v j) := by
  induction k using Sp.ind with
  | zero v hv => exact .zero _ fun j hj => mul_z c (hv j hj)
  | step v v0 r d hr _ hv ih => exact .step _ _ r (c * d) hr ih fun j hj => by rw [al_mul rfl (hv j hj), Int.mul_add, Int.mul_assoc]
theorem Sp.lin (c : Int) (h : Sp R C Z u) (k : Sp R C Z v) : Sp R C Z (fun j => u j + c * v j) := h.add (k.smul c)
theorem Sp.row {r : Nat} (hr : r < R) : Sp R C Z (Z r) := .step _ (fun _ => 0) r 1 hr (.zero _ fun _ _ => rfl) fun j _ => by rw [Int.one_mul, Int.zero_add]
theorem Sp.mono (h : ∀ r, r < R → Sp R' C Z' (Z r)) (k : Sp R C Z v) : Sp R' C Z' v := by
  induction k using Sp.ind with
  | zero v hv => exact .zero _ hv
  | step v v0 r c hr _ hv ih => exact (Sp.lin c ih (h r hr)).congr hv
theorem Sp.less {C' : Nat} (hC : C' ≤ C) (k : Sp R C Z v) : Sp R C' Z v := by
  induction k using Sp.ind with
  | zero v hv => exact .zero _ fun j hj => hv j (by omega)
  | step v v0 r c hr _ hv ih => exact .step _ _ r c hr ih fun j hj => hv j (by omega)
theorem Sp.more {n : Nat} (hR : R ≤ n) (k : Sp R C Z v) : Sp n C Z v := k.mono fun r hr => Sp.row (by omega)
/-- The last row set apart. -/
theorem Sp.last {n : Nat} (k : Sp (n + 1) C Z v) : ∃ u c, Sp n C Z u ∧ ∀ j, j < C → oF (v j) = oF (u j + c * Z n j) := by
  induction k using Sp.ind with
  | zero v hv => exact ⟨fun _ => 0, 0, .zero _ fun _ _ => rfl, fun j hj => by rw [hv j hj, Int.zero_mul]; rfl⟩
  | step v v0 r c hr _ hv ih =>
    obtain ⟨u, d, hu, e⟩ := ih
    by_cases h : r = n
    · subst h
      refine ⟨u, d + c, hu, fun j hj => ?_⟩
      rw [hv j hj, al_add (e j hj) rfl, Int.add_mul, Int.add_assoc]
    · refine ⟨fun j => u j + c * Z r j, d, hu.lin c (Sp.row (by omega)), fun j hj => ?_⟩
      rw [hv j hj, al_add (e j hj) rfl]
      exact congrArg oF (by dsimp only; omega)
end

/-! ### Where a row leads -/
def Ld (C : Nat) (v : Nat → Int) (j : Nat) : Prop := j < C ∧ oF (v j) ≠ 0 ∧ ∀ i, i < j → oF (v i) = 0
theorem ld_or (C : Nat) (v : Nat → Int) : (∀ j, j < C → oF (v j) = 0) ∨ ∃ j, Ld C v j := by
  induction C with
  | zero => exact .inl fun j hj => by omega
  | succ C ih =>
    rcases ih with h | ⟨j, h1, h2, h3⟩
    · by_cases e : oF (v C) = 0
      · refine .inl fun j hj => ?_
        by_cases hc : j = C
        · rw [hc]; exact e
        · exact h j (by omega)
      · exact .inr ⟨C, by omega, e, h⟩
    · exact .inr ⟨j, by omega, h2, h3⟩
theorem ld_unique {C : Nat} {v : Nat → Int} {i j : Nat} (h : Ld C v i) (k : Ld C v j) : i = j := by
  rcases Nat.lt_trichotomy i j with e | e | e
  · exact absurd (k.2.2 i e) h.2.1
  · exact e
  · exact absurd (h.2.2 j e) k.2.1
theorem ld_congr {C : Nat} {v v' : Nat → Int} {j : Nat} (h : Ld C v j) (e : ∀ i, i < C → oF (v' i) = oF (v i)) : Ld C v' j :=
  ⟨h.1, by rw [e j h.1]; exact h.2.1, fun i hi => by rw [e i (by have := h.1; omega)]; exact h.2.2 i hi⟩

theorem lead_in {C : Nat} {B : Nat → Nat → Int} {l : Nat → Nat} : ∀ (n : Nat), (∀ i, i < n → Ld C (B i) (l i)) → (∀ i k, i < n → k < n → l i = l k → i = k) →
    ∀ v, Sp n C B v → (∀ j, j < C → oF (v j) = 0) ∨ ∃ i, i < n ∧ Ld C v (l i)
  | 0, _, _, v, h => by
    induction h using Sp.ind with
    | zero _ h => exact .inl h
    | step _ _ r _ hr => omega
  | n + 1, hB, hi, v, h => by
    obtain ⟨u, c, hu, e⟩ := h.last
    obtain ⟨b1, b2, b3⟩ := hB n (by omega)
    rcases lead_in n (fun i h => hB i (by omega)) (fun i k h1 h2 => hi i k (by omega) (by omega)) u hu with hz | ⟨k, hk, k1, k2, k3⟩
    · by_cases hc : oF c = 0
      · refine .inl fun j hj => ?_
        rw [e j hj, al_add ((hz j hj).trans oF_zero.symm) rfl, Int.zero_add, al_mul (hc.trans oF_zero.symm) rfl, Int.zero_mul]; rfl
      · refine .inr ⟨n, by omega, b1, ?_, fun i hi => ?_⟩
        · rw [e _ b1, al_add ((hz _ b1).trans oF_zero.symm) rfl, Int.zero_add]
          exact mul_nz hc b2
        · rw [e i (by omega), al_add ((hz i (by omega)).trans oF_zero.symm) rfl, Int.zero_add]
          exact mul_z c (b3 i hi)
    · by_cases hc : oF c = 0
      · refine .inr ⟨k, by omega, ld_congr ⟨k1, k2, k3⟩ fun i hi => ?_⟩
        have : oF (c * B n i) = oF 0 := by rw [al_mul (hc.trans oF_zero.symm) rfl, Int.zero_mul]
        rw [e i hi, al_add rfl this, Int.add_zero]
      · have hne : l k ≠ l n := fun e => by have := hi k n (by omega) (by omega) e; omega
        rcases Nat.lt_or_gt_of_ne hne with hlt | hlt
        · refine .inr ⟨k, by omega, k1, ?_, fun i hi => ?_⟩
          · rw [e _ k1, al_add rfl ((mul_z c (b3 _ hlt)).trans oF_zero.symm), Int.add_zero]; exact k2
          · rw [e i (by omega), al_add rfl ((mul_z c (b3 i (by omega))).trans oF_zero.symm), Int.add_zero]; exact k3 i hi
        · refine .inr ⟨n, by omega, b1, ?_, fun i hi => ?_⟩
          · rw [e _ b1, al_add ((k3 _ hlt).trans oF_zero.symm) rfl, Int.zero_add]
            exact mul_nz hc b2
          · rw [e i (by omega), al_add ((k3 i (by omega)).trans oF_zero.symm) rfl, Int.zero_add]
            exact mul_z c (b3 i hi)

theorem pigeon : ∀ (m n : Nat) (f : Nat → Nat), (∀ i, i < n → f i < m) → (∀ i k, i < n → k < n → f i = f k → i = k) → n ≤ m
  | 0, n, f, h, _ => by
    rcases Nat.eq_zero_or_pos n with e | e
    · omega
    · exact absurd (h 0 e) (by omega)
  | m + 1, n, f, h, hi => by
    by_cases e : ∃ i, i < n ∧ f i = m
    · obtain ⟨a, ha, ea⟩ := e
      have key := pigeon m (n - 1) (fun i => if i < a then f i else f (i + 1)) (fun i hi' => by
          split
          · have h1 := h i (by omega)
            have h2 : f i ≠ m := fun e => by have := hi i a (by omega) ha (e.trans ea.symm); omega
            omega
          · have h1 := h (i + 1) (by omega)
            have h2 : f (i + 1) ≠ m := fun e => by have := hi (i + 1) a (by omega) ha (e.trans ea.symm); omega
            omega) (fun i k h1 h2 => by
          split <;> split
          · exact hi i k (by omega) (by omega)
          · intro e; have := hi i (k + 1) (by omega) (by omega) e; omega
          · intro e; have := hi (i + 1) k (by omega) (by omega) e; omega
          · intro e; have := hi (i + 1) (k + 1) (by omega) (by omega) e; omega)
      omega
    · have := pigeon m n f (fun i hi' => by
        have h1 := h i hi'
        have h2 : f i ≠ m := fun k => e ⟨i, hi', k⟩
        omega) hi
      omega

/-! ### The rank -/
def Rk (R C : Nat) (Z : Nat → Nat → Int) (n : Nat) : Prop :=
  ∃ l : Nat → Nat, (∀ i k, i < n → k < n → l i = l k → i = k) ∧ (∀ i, i < n → l i < C ∧ ∃ v, Sp R C Z v ∧ Ld C v (l i)) ∧ ∀ v j, Sp R C Z v → Ld C v j → ∃ i, i < n ∧ l i = j

theorem Rk.of {R C n : Nat} {Z B : Nat → Nat → Int} {l : Nat → Nat} (hB : ∀ i, i < n → Ld C (B i) (l i)) (hi : ∀ i k, i < n → k < n → l i = l k → i = k)
    (h1 : ∀ i, i < n → Sp R C Z (B i)) (h2 : ∀ r, r < R → Sp n C B (Z r)) : Rk R C Z n := by
  refine ⟨l, hi, fun i hi' => ⟨(hB i hi').1, _, h1 i hi', hB i hi'⟩, fun v j hv hj => ?_⟩
  rcases lead_in n hB hi v (hv.mono h2) with h | ⟨i, hi', h⟩
  · exact absurd (h j hj.1) hj.2.1
  · exact ⟨i, hi', ld_unique h hj⟩
theorem Rk.le {R R' C n m : Nat} {Z Z' : Nat → Nat → Int} (h : Rk R C Z n) (k : Rk R' C Z' m) (hs : ∀ r, r < R → Sp R' C Z' (Z r)) : n ≤ m := by
  obtain ⟨l, hi, h1, _⟩ := h
  obtain ⟨l', hi', _, k2⟩ := k
  have ex : ∀ i, ∃ q, i < n → q < m ∧ l' q = l i := fun i => by
    by_cases hin : i < n
    · obtain ⟨_, v, hv, hl⟩ := h1 i hin
      obtain ⟨q, hq, e⟩ := k2 v (l i) (hv.mono hs) hl
      exact ⟨q, fun _ => ⟨hq, e⟩⟩
    · exact ⟨0, fun h => absurd h hin⟩
  refine pigeon m n (fun i => Classical.choose (ex i)) (fun i hin => (Classical.choose_spec (ex i) hin).1) (fun i j h1 h2 e => ?_)
  have a := (Classical.choose_spec (ex i) h1).2
  have b := (Classical.choose_spec (ex j) h2).2
  rw [e, b] at a
  exact (hi j i h2 h1 a).symm
theorem Rk.unique {R C n m : Nat} {Z : Nat → Nat → Int} (h : Rk R C Z n) (k : Rk R C Z m) : n = m := by
  have a := h.le k fun r hr => Sp.row hr
  have b := k.le h fun r hr => Sp.row hr
  omega
theorem Rk.cols {R C n : Nat} {Z : Nat → Nat → Int} (h : Rk R C Z n) : n ≤ C := by
  obtain ⟨l, hi, h1, _⟩ := h
  exact pigeon C n l (fun i h => (h1 i h).1) hi

/-! ### Tables of which each row is a sum of multiples of the other's -/
def Mut (R W : Nat) (Z Z' : Nat → Nat → Int) : Prop := (∀ r, r < R → Sp R W Z (Z' r)) ∧ ∀ r, r < R → Sp R W Z' (Z r)
theorem Mut.refl (R W : Nat) (Z : Nat → Nat → Int) : Mut R W Z Z := ⟨fun _ h => Sp.row h, fun _ h => Sp.row h⟩
theorem Mut.symm {R W : Nat} {Z Z' : Nat → Nat → Int} (h : Mut R W Z Z') : Mut R W Z' Z := ⟨h.2, h.1⟩
theorem Mut.trans {R W : Nat} {Z Z' Z'' : Nat → Nat → Int} (h : Mut R W Z Z') (k : Mut R W Z' Z'') : Mut R W Z Z'' :=
  ⟨fun r hr => (k.1 r hr).mono h.1, fun r hr => (h.2 r hr).mono k.2⟩
theorem Mut.less {R W C : Nat} {Z Z' : Nat → Nat → Int} (h : Mut R W Z Z') (hC : C ≤ W) : Mut R C Z Z' :=
  ⟨fun r hr => (h.1 r hr).less hC, fun r hr => (h.2 r hr).less hC⟩
theorem Mut.alike {R W : Nat} {Z Z' : Nat → Nat → Int} (h : ∀ r, r < R → ∀ j, j < W → oF (Z' r j) = oF (Z r j)) : Mut R W Z Z' :=
  ⟨fun r hr => (Sp.row hr).congr (h r hr), fun r hr => (Sp.row hr).congr fun j hj => (h r hr j hj).symm⟩
theorem Mut.rk {R C n : Nat} {Z Z' : Nat → Nat → Int} (h : Mut R C Z Z') (k : Rk R C Z n) : Rk R C Z' n := by
  obtain ⟨l, hi, h1, h2⟩ := k
  refine ⟨l, hi, fun i hi' => ?_, fun v j hv hj => h2 v j (hv.mono h.1) hj⟩
  obtain ⟨a, v, hv, hl⟩ := h1 i hi'
  exact ⟨a, v, hv.mono h.2, hl⟩

end Go.Proofs.Ytilkcbnioebinaa.Fm
