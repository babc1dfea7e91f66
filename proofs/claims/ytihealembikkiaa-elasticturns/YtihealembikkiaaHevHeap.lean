
/-
  A heap by index as a plain function: the one that stands last on top; what a swap, an item set and an item put behind do to its order, to the list that it stands for and to the places that a map tells: nothing of the program is in this text.
-/
import Derived.Test.YtihealembikkiaaHevNum
namespace Go.Proofs.Ytihealembikkiaa.Hv
set_option linter.unusedVariables false
set_option maxRecDepth 20000

def upd (a : Nat → Itm) (i : Nat) (x : Itm) : Nat → Itm := fun j => if j = i then x else a j
def swp (a : Nat → Itm) (i j : Nat) : Nat → Itm := fun k => if k = i then a j else if k = j then a i else a k
theorem upd_at (a : Nat → Itm) (i : Nat) (x : Itm) : upd a i x i = x := if_pos rfl
theorem upd_not (a : Nat → Itm) {i j : Nat} (x : Itm) (h : j ≠ i) : upd a i x j = a j := if_neg h
theorem swp_l (a : Nat → Itm) (i j : Nat) : swp a i j i = a j := if_pos rfl
theorem swp_r (a : Nat → Itm) (i j : Nat) : swp a i j j = a i := by unfold swp; split <;> simp_all
theorem swp_n (a : Nat → Itm) {i j k : Nat} (h1 : k ≠ i) (h2 : k ≠ j) : swp a i j k = a k := by unfold swp; rw [if_neg h1, if_neg h2]
theorem ahead_asymm {a b : Itm} (h : Ahead a b) : ¬ Ahead b a := fun k => ahead_irrefl a (ahead_trans h k)
/-- The heap's own order: each one stands ahead of the one above it. -/
def HeapF (n : Nat) (a : Nat → Itm) : Prop := ∀ i, 0 < i → i < n → Ahead (a i) (a ((i - 1) / 2))
/-- It holds but for the way up from one. -/
def HeapU (n : Nat) (a : Nat → Itm) (j : Nat) : Prop := (∀ i, 0 < i → i < n → i ≠ j → Ahead (a i) (a ((i - 1) / 2))) ∧ ∀ i, 0 < i → i < n → (i - 1) / 2 = j → 0 < j → Ahead (a i) (a ((j - 1) / 2))
/-- It holds but for the ways down from one. -/
def HeapD (n : Nat) (a : Nat → Itm) (j : Nat) : Prop := (∀ i, 0 < i → i < n → (i - 1) / 2 ≠ j → Ahead (a i) (a ((i - 1) / 2))) ∧ ∀ i, 0 < i → i < n → (i - 1) / 2 = j → 0 < j → Ahead (a i) (a ((j - 1) / 2))
/-- It holds but for the ways to and from one. -/
def HeapB (n : Nat) (a : Nat → Itm) (j : Nat) : Prop := (∀ i, 0 < i → i < n → i ≠ j → (i - 1) / 2 ≠ j → Ahead (a i) (a ((i - 1) / 2))) ∧ ∀ i, 0 < i → i < n → (i - 1) / 2 = j → 0 < j → Ahead (a i) (a ((j - 1) / 2))
theorem HeapD.b {n : Nat} {a : Nat → Itm} {j : Nat} (h : HeapD n a j) : HeapB n a j := ⟨fun i h0 hn _ h2 => h.1 i h0 hn h2, h.2⟩
theorem HeapU.b {n : Nat} {a : Nat → Itm} {j : Nat} (h : HeapU n a j) : HeapB n a j := ⟨fun i h0 hn h1 _ => h.1 i h0 hn h1, h.2⟩
theorem HeapB.u {n : Nat} {a : Nat → Itm} {j : Nat} (h : HeapB n a j) (c : ∀ i, 0 < i → i < n → (i - 1) / 2 = j → Ahead (a i) (a j)) : HeapU n a j := ⟨fun i h0 hn h1 => by
  by_cases e : (i - 1) / 2 = j
  · rw [e]; exact c i h0 hn e
  · exact h.1 i h0 hn h1 e, h.2⟩
theorem HeapB.d {n : Nat} {a : Nat → Itm} {j : Nat} (h : HeapB n a j) (c : 0 < j → j < n → Ahead (a j) (a ((j - 1) / 2))) : HeapD n a j := ⟨fun i h0 hn h2 => by
  by_cases e : i = j
  · subst e; exact c h0 hn
  · exact h.1 i h0 hn e h2, h.2⟩
theorem HeapF.u {n : Nat} {a : Nat → Itm} (h : HeapF n a) (j : Nat) : HeapU n a j := ⟨fun i h0 hn _ => h i h0 hn, fun i h0 hn e j0 => by
  have e1 := h i h0 hn
  rw [e] at e1
  exact ahead_trans e1 (h j j0 (by omega))⟩
theorem heapU_end {n : Nat} {a : Nat → Itm} {j : Nat} (h : HeapU n a j) (c : 0 < j → j < n → Ahead (a j) (a ((j - 1) / 2))) : HeapF n a := fun i h0 hn => by
  by_cases e : i = j
  · subst e; exact c h0 hn
  · exact h.1 i h0 hn e
theorem heapD_end {n : Nat} {a : Nat → Itm} {j : Nat} (h : HeapD n a j) (c : ∀ i, 0 < i → i < n → (i - 1) / 2 = j → Ahead (a i) (a j)) : HeapF n a := fun i h0 hn => by
  by_cases e : (i - 1) / 2 = j
  · rw [e]; exact c i h0 hn e
  · exact h.1 i h0 hn e
/-- One that stands behind the one above it, changed with that. -/
theorem heapU_step {n : Nat} {a : Nat → Itm} {j : Nat} (h : HeapU n a j) (j0 : 0 < j) (jn : j < n) (c : Ahead (a ((j - 1) / 2)) (a j)) : HeapU n (swp a ((j - 1) / 2) j) ((j - 1) / 2) := by
  obtain ⟨p, hp⟩ : ∃ p, p = (j - 1) / 2 := ⟨_, rfl⟩
  rw [← hp] at c ⊢
  have pj : p < j := by omega
  refine ⟨fun i h0 hn ip => ?_, fun i h0 hn ep p0 => ?_⟩
  · by_cases ij : i = j
    · subst ij
      rw [swp_r, ← hp, swp_l]
      exact c
    · rw [swp_n a ip ij]
      by_cases e1 : (i - 1) / 2 = j
      · rw [e1, swp_r]
        have := h.2 i h0 hn e1 j0
        rwa [← hp] at this
      · by_cases e2 : (i - 1) / 2 = p
        · rw [e2, swp_l]
          have := h.1 i h0 hn ij
          rw [e2] at this
          exact ahead_trans this c
        · rw [swp_n a e2 e1]
          exact h.1 i h0 hn ij
  · rw [swp_n a (show (p - 1) / 2 ≠ p by omega) (show (p - 1) / 2 ≠ j by omega)]
    have pp := h.1 p p0 (by omega) (by omega)
    by_cases ij : i = j
    · subst ij
      rw [swp_r]
      exact pp
    · rw [swp_n a (show i ≠ p by omega) ij]
      have := h.1 i h0 hn ij
      rw [ep] at this
      exact ahead_trans this pp
/-- One that stands ahead of one below it, changed with the last of those. -/
theorem heapB_step {n : Nat} {a : Nat → Itm} {i c : Nat} (h : HeapB n a i) (c0 : 0 < c) (cn : c < n) (hc : (c - 1) / 2 = i) (hk : ∀ k, 0 < k → k < n → (k - 1) / 2 = i → k ≠ c → Ahead (a k) (a c)) (ha : Ahead (a i) (a c))
    : HeapD n (swp a i c) c := by
  have ic : i < c := by omega
  refine ⟨fun k h0 hn e => ?_, fun k h0 hn e _ => ?_⟩
  · by_cases kc : k = c
    · subst kc
      rw [swp_r, hc, swp_l]
      exact ha
    · by_cases ki : k = i
      · subst ki
        rw [swp_l, swp_n a (show (k - 1) / 2 ≠ k by omega) (show (k - 1) / 2 ≠ c by omega)]
        exact h.2 c c0 cn hc h0
      · rw [swp_n a ki kc]
        by_cases e1 : (k - 1) / 2 = i
        · rw [e1, swp_l]
          exact hk k h0 hn e1 kc
        · rw [swp_n a e1 e]
          exact h.1 k h0 hn ki e1
  · rw [swp_n a (show k ≠ i by omega) (show k ≠ c by omega), hc, swp_l]
    have := h.1 k h0 hn (by omega) (by omega)
    rwa [e] at this
theorem heap_upd {n : Nat} {a : Nat → Itm} (h : HeapF n a) (i : Nat) (x : Itm) : HeapB n (upd a i x) i := ⟨fun k h0 hn e1 e2 => by
  rw [upd_not a x e1, upd_not a x e2]
  exact h k h0 hn, fun k h0 hn e i0 => by
  rw [upd_not a x (show k ≠ i by omega), upd_not a x (show (i - 1) / 2 ≠ i by omega)]
  exact (h.u i).2 k h0 hn e i0⟩
theorem heap_app {n : Nat} {a : Nat → Itm} (h : HeapF n a) (x : Itm) : HeapU (n + 1) (upd a n x) n := ⟨fun k h0 hn e => by
  rw [upd_not a x e, upd_not a x (show (k - 1) / 2 ≠ n by omega)]
  exact h k h0 (by omega), fun k h0 hn e n0 => by omega⟩
theorem heapF_less {n m : Nat} {a : Nat → Itm} (h : HeapF n a) (k : m ≤ n) : HeapF m a := fun i h0 hn => h i h0 (by omega)
theorem heapF_root {n : Nat} {a : Nat → Itm} (h : HeapF n a) : ∀ i, 0 < i → i < n → Ahead (a i) (a 0) := by
  intro i
  induction i using Nat.strongRecOn with
  | _ i ih =>
    intro h0 hn
    have e := h i h0 hn
    by_cases p0 : (i - 1) / 2 = 0
    · rw [p0] at e; exact e
    · exact ahead_trans e (ih _ (by omega) (by omega) (by omega))
/-- Two lists that stand with the same items are one. -/
theorem stands_unique : ∀ {l m : List Itm}, StandsL l → StandsL m → (∀ x, x ∈ l ↔ x ∈ m) → l = m
  | [], [], _, _, _ => rfl
  | [], y :: r, _, _, e => absurd ((e y).2 (List.mem_cons_self ..)) (by simp)
  | x :: r, [], _, _, e => absurd ((e x).1 (List.mem_cons_self ..)) (by simp)
  | x :: r, y :: q, h, k, e => by
    have hx := List.pairwise_cons.1 h
    have ky := List.pairwise_cons.1 k
    have xy : x = y := by
      rcases List.mem_cons.1 ((e x).1 (List.mem_cons_self ..)) with g | g
      · exact g
      · rcases List.mem_cons.1 ((e y).2 (List.mem_cons_self ..)) with f | f
        · exact f.symm
        · exact absurd (hx.1 y f).1 (ahead_asymm (ky.1 x g).1)
    subst xy
    have : r = q := stands_unique hx.2 ky.2 fun z => by
      constructor
      · intro m
        rcases List.mem_cons.1 ((e z).1 (List.mem_cons_of_mem _ m)) with g | g
        · subst g; exact absurd rfl (hx.1 z m).2
        · exact g
      · intro m
        rcases List.mem_cons.1 ((e z).2 (List.mem_cons_of_mem _ m)) with g | g
        · subst g; exact absurd rfl (ky.1 z m).2
        · exact g
    rw [this]
/-- So many items by place are those of a list as they stand. -/
structure HoldsL (n : Nat) (a : Nat → Itm) (m : List Itm) : Prop where
  stands : StandsL m
  len : m.length = n
  mem : ∀ x, x ∈ m ↔ ∃ i, i < n ∧ a i = x
  inj : ∀ i j, i < n → j < n → (a i).k = (a j).k → i = j
theorem holds_none (a : Nat → Itm) : HoldsL 0 a [] := ⟨List.Pairwise.nil, rfl, fun x => by simp, fun i j h => by omega⟩
theorem HoldsL.at {n : Nat} {a : Nat → Itm} {m : List Itm} (h : HoldsL n a m) {i : Nat} (hi : i < n) : a i ∈ m := (h.mem _).2 ⟨i, hi, rfl⟩
theorem HoldsL.congr {n : Nat} {a b : Nat → Itm} {m : List Itm} (h : HoldsL n a m) (e : ∀ i, i < n → a i = b i) : HoldsL n b m := ⟨h.stands, h.len, fun x => by
  rw [h.mem]
  constructor
  · rintro ⟨i, hi, r⟩; exact ⟨i, hi, by rw [← e i hi]; exact r⟩
  · rintro ⟨i, hi, r⟩; exact ⟨i, hi, by rw [e i hi]; exact r⟩, fun i j hi hj r => h.inj i j hi hj (by rw [e i hi, e j hj]; exact r)⟩
def trd (i j k : Nat) : Nat := if k = i then j else if k = j then i else k
theorem trd_lt {i j k n : Nat} (hi : i < n) (hj : j < n) (hk : k < n) : trd i j k < n := by
  unfold trd
  by_cases e : k = i
  · rw [if_pos e]; exact hj
  · rw [if_neg e]
    by_cases f : k = j
    · rw [if_pos f]; exact hi
    · rw [if_neg f]; exact hk
theorem trd_trd (i j k : Nat) : trd i j (trd i j k) = k := by
  unfold trd
  by_cases e : k = i <;> by_cases f : k = j <;> by_cases g : i = j <;> simp [e, f, g] <;> omega
theorem trd_inj {i j k l : Nat} (h : trd i j k = trd i j l) : k = l := by rw [← trd_trd i j k, h, trd_trd]
theorem swp_idx (a : Nat → Itm) (i j k : Nat) : swp a i j k = a (trd i j k) := by
  unfold swp trd
  by_cases e : k = i
  · rw [if_pos e, if_pos e]
  · rw [if_neg e, if_neg e]
    by_cases f : k = j
    · rw [if_pos f, if_pos f]
    · rw [if_neg f, if_neg f]
theorem HoldsL.swap {n : Nat} {a : Nat → Itm} {m : List Itm} (h : HoldsL n a m) {i j : Nat} (hi : i < n) (hj : j < n) : HoldsL n (swp a i j) m := ⟨h.stands, h.len, fun x => by
  rw [h.mem]
  constructor
  · rintro ⟨k, hk, r⟩
    exact ⟨trd i j k, trd_lt hi hj hk, by rw [swp_idx, trd_trd]; exact r⟩
  · rintro ⟨k, hk, r⟩
    rw [swp_idx] at r
    exact ⟨_, trd_lt hi hj hk, r⟩, fun k l hk hl r => by
  rw [swp_idx, swp_idx] at r
  exact trd_inj (h.inj _ _ (trd_lt hi hj hk) (trd_lt hi hj hl) r)⟩
/-- Another count for a key that is there. -/
theorem HoldsL.set {n : Nat} {a : Nat → Itm} {m : List Itm} (h : HoldsL n a m) {i : Nat} (hi : i < n) (c : Int) : HoldsL n (upd a i ⟨(a i).k, c⟩) (putL (withoutL m (a i).k) ⟨(a i).k, c⟩) := by
  refine ⟨putL_stands (without_stands h.stands _) fun y q => ((without_mem _ _ _).1 q).2, ?_, fun x => ?_, fun k l hk hl r => ?_⟩
  · rw [putL_length]
    rcases without_length h.stands (a i).k with ⟨_, b⟩ | ⟨b, _⟩
    · exact absurd rfl (b _ (h.at hi))
    · rw [b, h.len]
  · rw [putL_mem, without_mem]
    constructor
    · rintro (rfl | ⟨q, e⟩)
      · exact ⟨i, hi, upd_at _ _ _⟩
      · obtain ⟨k, hk, rfl⟩ := (h.mem x).1 q
        have : k ≠ i := fun z => e (by rw [z])
        exact ⟨k, hk, upd_not _ _ this⟩
    · rintro ⟨k, hk, e⟩
      by_cases ki : k = i
      · subst ki
        rw [upd_at] at e
        exact Or.inl e.symm
      · rw [upd_not _ _ ki] at e
        subst e
        exact Or.inr ⟨h.at hk, fun z => ki (h.inj _ _ hk hi z)⟩
  · refine h.inj k l hk hl ?_
    by_cases ki : k = i <;> by_cases li : l = i
    · rw [ki, li]
    · subst ki; rw [upd_at, upd_not _ _ li] at r; exact r
    · subst li; rw [upd_at, upd_not _ _ ki] at r; exact r
    · rw [upd_not _ _ ki, upd_not _ _ li] at r; exact r
/-- A key that is not there, put behind. -/
theorem HoldsL.app {n : Nat} {a : Nat → Itm} {m : List Itm} (h : HoldsL n a m) {x : Itm} (nx : ∀ i, i < n → (a i).k ≠ x.k) : HoldsL (n + 1) (upd a n x) (putL m x) := by
  have nm : ∀ y, y ∈ m → y.k ≠ x.k := fun y q => by
    obtain ⟨i, hi, rfl⟩ := (h.mem y).1 q
    exact nx i hi
  refine ⟨putL_stands h.stands nm, by rw [putL_length, h.len], fun y => ?_, fun k l hk hl r => ?_⟩
  · rw [putL_mem, h.mem]
    constructor
    · rintro (rfl | ⟨k, hk, e⟩)
      · exact ⟨n, by omega, upd_at _ _ _⟩
      · exact ⟨k, by omega, by rw [upd_not _ _ (by omega)]; exact e⟩
    · rintro ⟨k, hk, e⟩
      by_cases kn : k = n
      · subst kn; rw [upd_at] at e; exact Or.inl e.symm
      · rw [upd_not _ _ kn] at e; exact Or.inr ⟨k, by omega, e⟩
  · by_cases kn : k = n <;> by_cases ln : l = n
    · rw [kn, ln]
    · subst kn; rw [upd_at, upd_not _ _ ln] at r; exact absurd r.symm (nx l (by omega))
    · subst ln; rw [upd_at, upd_not _ _ kn] at r; exact absurd r (nx k (by omega))
    · rw [upd_not _ _ kn, upd_not _ _ ln] at r; exact h.inj k l (by omega) (by omega) r
theorem stands_last {m : List Itm} (st : StandsL m) {z : Itm} (hz : m.getLast? = some z) : ∀ y, y ∈ m → y ≠ z → Ahead y z := by
  obtain ⟨r, rfl⟩ := List.getLast?_eq_some_iff.1 hz
  intro y hy ne
  rcases List.mem_append.1 hy with q | q
  · exact ((List.pairwise_append.1 st).2.2 y q z (by simp)).1
  · exact absurd (by simpa using q) ne
/-- The one on top is the last one. -/
theorem HoldsL.last {n : Nat} {a : Nat → Itm} {m : List Itm} (h : HoldsL n a m) (f : HeapF n a) (n0 : 0 < n) : m.getLast? = some (a 0) := by
  obtain ⟨z, hz⟩ : ∃ z, m.getLast? = some z := by
    cases e : m.getLast? with
    | none => rw [List.getLast?_eq_none_iff] at e; have := h.len; rw [e] at this; simp at this; omega
    | some z => exact ⟨z, rfl⟩
  have zm : z ∈ m := List.mem_of_getLast? hz
  obtain ⟨i, hi, e⟩ := (h.mem z).1 zm
  by_cases i0 : i = 0
  · subst i0; rw [hz, e]
  · have q := heapF_root f i (by omega) hi
    rw [e] at q
    exact absurd q (ahead_asymm (stands_last h.stands hz (a 0) (h.at n0) fun g => by
      have := h.inj 0 i n0 hi (by rw [g, e])
      omega))
theorem HoldsL.lastC {n : Nat} {a : Nat → Itm} {m : List Itm} (h : HoldsL n a m) (f : HeapF n a) (n0 : 0 < n) : lastC m = (a 0).c := by
  unfold Hv.lastC
  rw [h.last f n0]
/-- The last one goes, another one comes. -/
theorem HoldsL.root {n : Nat} {a : Nat → Itm} {m : List Itm} (h : HoldsL n a m) (f : HeapF n a) (n0 : 0 < n) {x : Itm} (nx : ∀ i, i < n → (a i).k ≠ x.k) : HoldsL n (upd a 0 x) (putL m.dropLast x) := by
  obtain ⟨r, rfl⟩ := List.getLast?_eq_some_iff.1 (h.last f n0)
  rw [List.dropLast_concat]
  have st := List.pairwise_append.1 h.stands
  have nr : ∀ y, y ∈ r → ∃ i, 0 < i ∧ i < n ∧ a i = y := fun y q => by
    obtain ⟨i, hi, e⟩ := (h.mem y).1 (List.mem_append_left _ q)
    refine ⟨i, ?_, hi, e⟩
    by_cases i0 : i = 0
    · subst i0; subst e
      exact absurd rfl (st.2.2 _ q (a 0) (by simp)).2
    · omega
  refine ⟨putL_stands st.1 fun y q => by obtain ⟨i, _, hi, e⟩ := nr y q; rw [← e]; exact nx i hi, by have := h.len; rw [List.length_append] at this; rw [putL_length]; simpa using this, fun y => ?_, fun k l hk hl e => ?_⟩
  · rw [putL_mem]
    constructor
    · rintro (rfl | q)
      · exact ⟨0, n0, upd_at _ _ _⟩
      · obtain ⟨i, i0, hi, e⟩ := nr y q
        exact ⟨i, hi, by rw [upd_not _ _ (by omega)]; exact e⟩
    · rintro ⟨i, hi, e⟩
      by_cases i0 : i = 0
      · subst i0; rw [upd_at] at e; exact Or.inl e.symm
      · rw [upd_not _ _ i0] at e
        rcases List.mem_append.1 (h.at hi) with q | q
        · exact Or.inr (by rw [← e]; exact q)
        · have e2 : a i = a 0 := by simpa using q
          exact absurd (h.inj i 0 hi n0 (by rw [e2])) i0
  · by_cases k0 : k = 0 <;> by_cases l0 : l = 0
    · omega
    · subst k0; rw [upd_at, upd_not _ _ l0] at e; exact absurd e.symm (nx l hl)
    · subst l0; rw [upd_at, upd_not _ _ k0] at e; exact absurd e (nx k hk)
    · rw [upd_not _ _ k0, upd_not _ _ l0] at e; exact h.inj k l hk hl e
/-- What an offer gives, a way at a time. -/
theorem HoldsL.offer_in {n room : Nat} {a : Nat → Itm} {m : List Itm} (h : HoldsL n a m) {i : Nat} (hi : i < n) (c : Int) : offerL room m (a i).k c = (putL (withoutL m (a i).k) ⟨(a i).k, c⟩, true) := by
  refine if_pos (Or.inl ?_)
  rcases without_length h.stands (a i).k with ⟨_, b⟩ | ⟨b, _⟩
  · exact absurd rfl (b _ (h.at hi))
  · omega
theorem HoldsL.not_in {n : Nat} {a : Nat → Itm} {m : List Itm} (h : HoldsL n a m) {key : ByteArray} (nx : ∀ i, i < n → (a i).k ≠ key) : withoutL m key = m := without_all fun y q => by
  obtain ⟨i, hi, rfl⟩ := (h.mem y).1 q
  exact nx i hi
theorem HoldsL.offer_room {n room : Nat} {a : Nat → Itm} {m : List Itm} (h : HoldsL n a m) {key : ByteArray} (nx : ∀ i, i < n → (a i).k ≠ key) (r : n < room) (c : Int) : offerL room m key c = (putL m ⟨key, c⟩, true) := by
  unfold offerL
  rw [h.not_in nx, if_pos (Or.inr (by rw [h.len]; exact r))]
theorem HoldsL.offer_root {n room : Nat} {a : Nat → Itm} {m : List Itm} (h : HoldsL n a m) (f : HeapF n a) (n0 : 0 < n) {key : ByteArray} (nx : ∀ i, i < n → (a i).k ≠ key) (r : ¬ n < room) {c : Int} (g : c > (a 0).c) : offerL room m key c = (putL m.dropLast ⟨key, c⟩, true) := by
  unfold offerL
  rw [h.not_in nx, if_neg (by rw [h.len]; omega), if_pos (by rw [h.lastC f n0]; exact g)]
theorem HoldsL.offer_no {n room : Nat} {a : Nat → Itm} {m : List Itm} (h : HoldsL n a m) (f : HeapF n a) (n0 : 0 < n) {key : ByteArray} (nx : ∀ i, i < n → (a i).k ≠ key) (r : ¬ n < room) {c : Int} (g : ¬ c > (a 0).c) : offerL room m key c = (m, false) := by
  unfold offerL
  rw [h.not_in nx, if_neg (by rw [h.len]; omega), if_neg (by rw [h.lastC f n0]; exact g)]
theorem HoldsL.get_in {n : Nat} {a : Nat → Itm} {m : List Itm} (h : HoldsL n a m) {i : Nat} (hi : i < n) : getL m (a i).k = some (a i).c := getL_some h.stands (h.at hi)
theorem HoldsL.get_out {n : Nat} {a : Nat → Itm} {m : List Itm} (h : HoldsL n a m) {key : ByteArray} (nx : ∀ i, i < n → (a i).k ≠ key) : getL m key = none := getL_none fun y q => by
  obtain ⟨i, hi, rfl⟩ := (h.mem y).1 q
  exact nx i hi
/-- The places that a map tells. -/
def PlF (n : Nat) (a : Nat → Itm) (F : ByteArray → Option Int) : Prop := (∀ i, i < n → F (a i).k = some (i : Int)) ∧ ∀ s, (∀ i, i < n → (a i).k ≠ s) → F s = none
def setF (F : ByteArray → Option Int) (s : ByteArray) (v : Int) : ByteArray → Option Int := fun t => if t = s then some v else F t
def delF (F : ByteArray → Option Int) (s : ByteArray) : ByteArray → Option Int := fun t => if t = s then none else F t
theorem PlF.known {n : Nat} {a : Nat → Itm} {F : ByteArray → Option Int} (h : PlF n a F) (s : ByteArray) : (∃ i, i < n ∧ (a i).k = s ∧ F s = some (i : Int)) ∨ ((∀ i, i < n → (a i).k ≠ s) ∧ F s = none) := by
  by_cases e : ∃ i, i < n ∧ (a i).k = s
  · obtain ⟨i, hi, rfl⟩ := e
    exact Or.inl ⟨i, hi, rfl, h.1 i hi⟩
  · have k : ∀ i, i < n → (a i).k ≠ s := fun i hi g => e ⟨i, hi, g⟩
    exact Or.inr ⟨k, h.2 s k⟩
theorem plF_none (a : Nat → Itm) : PlF 0 a fun _ => none := ⟨fun i h => by omega, fun s _ => rfl⟩
theorem PlF.set {n : Nat} {a : Nat → Itm} {F : ByteArray → Option Int} (h : PlF n a F) (i : Nat) (c : Int) : PlF n (upd a i ⟨(a i).k, c⟩) F := by
  have k : ∀ j, (upd a i ⟨(a i).k, c⟩ j).k = (a j).k := fun j => by
    by_cases e : j = i
    · subst e; rw [upd_at]
    · rw [upd_not _ _ e]
  exact ⟨fun j hj => by rw [k]; exact h.1 j hj, fun s q => h.2 s fun j hj => by rw [← k]; exact q j hj⟩
theorem PlF.app {n : Nat} {a : Nat → Itm} {F : ByteArray → Option Int} (h : PlF n a F) {x : Itm} (nx : ∀ i, i < n → (a i).k ≠ x.k) : PlF (n + 1) (upd a n x) (setF F x.k n) := by
  refine ⟨fun j hj => ?_, fun s q => ?_⟩
  · by_cases e : j = n
    · subst e; rw [upd_at]; exact if_pos rfl
    · rw [upd_not _ _ e]
      exact (if_neg (nx j (by omega))).trans (h.1 j (by omega))
  · have e : s ≠ x.k := fun z => q n (by omega) (by rw [upd_at, z])
    exact (if_neg e).trans (h.2 s fun j hj => by have := q j (by omega); rwa [upd_not _ _ (by omega)] at this)
theorem PlF.swap {n : Nat} {a : Nat → Itm} {F : ByteArray → Option Int} (h : PlF n a F) {i j : Nat} (hi : i < n) (hj : j < n) (inj : ∀ i j, i < n → j < n → (a i).k = (a j).k → i = j) : PlF n (swp a i j) (setF (setF F (a j).k i) (a i).k j) := by
  refine ⟨fun k hk => ?_, fun s q => ?_⟩
  · unfold setF
    by_cases ki : k = i
    · subst ki
      rw [swp_l]
      by_cases e : (a j).k = (a k).k
      · rw [if_pos e, inj j k hj hk e]
      · rw [if_neg e, if_pos rfl]
    · by_cases kj : k = j
      · subst kj
        rw [swp_r, if_pos rfl]
      · rw [swp_n a ki kj, if_neg fun e => ki (inj k i hk hi e), if_neg fun e => kj (inj k j hk hj e)]
        exact h.1 k hk
  · have qi : (a j).k ≠ s := by have := q i hi; rwa [swp_l] at this
    have qj : (a i).k ≠ s := by have := q j hj; rwa [swp_r] at this
    unfold setF
    rw [if_neg (Ne.symm qj), if_neg (Ne.symm qi)]
    refine h.2 s fun k hk => ?_
    by_cases ki : k = i
    · rw [ki]; exact qj
    · by_cases kj : k = j
      · rw [kj]; exact qi
      · have := q k hk; rwa [swp_n a ki kj] at this
/-- The two stores of a swap, the other way about. -/
theorem setF_turn {F : ByteArray → Option Int} {s t : ByteArray} {x y : Int} (h : s = t → x = y) : setF (setF F s x) t y = setF (setF F t y) s x := by
  funext q
  unfold setF
  by_cases e1 : q = s <;> by_cases e2 : q = t
  · rw [if_pos e2, if_pos e1, h (e1 ▸ e2)]
  · rw [if_neg e2, if_pos e1, if_pos e1]
  · rw [if_pos e2, if_neg e1, if_pos e2]
  · rw [if_neg e2, if_neg e1, if_neg e1, if_neg e2]
theorem PlF.root {n : Nat} {a : Nat → Itm} {F : ByteArray → Option Int} (h : PlF n a F) {i : Nat} (hi : i < n) (inj : ∀ i j, i < n → j < n → (a i).k = (a j).k → i = j) {x : Itm} (nx : ∀ i, i < n → (a i).k ≠ x.k) : PlF n (upd a i x) (setF (delF F (a i).k) x.k i) := by
  refine ⟨fun k hk => ?_, fun s q => ?_⟩
  · unfold setF delF
    by_cases ki : k = i
    · subst ki; rw [upd_at, if_pos rfl]
    · rw [upd_not _ _ ki, if_neg (nx k hk), if_neg fun e => ki (inj k i hk hi e)]
      exact h.1 k hk
  · have e : s ≠ x.k := fun z => q i hi (by rw [upd_at, z])
    unfold setF delF
    rw [if_neg e]
    by_cases e2 : s = (a i).k
    · rw [if_pos e2]
    · rw [if_neg e2]
      refine h.2 s fun k hk => ?_
      by_cases ki : k = i
      · rw [ki]; exact Ne.symm e2
      · have := q k hk; rwa [upd_not _ _ ki] at this
end Go.Proofs.Ytihealembikkiaa.Hv
