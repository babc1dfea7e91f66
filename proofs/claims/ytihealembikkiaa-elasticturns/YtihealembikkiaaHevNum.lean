
/-
  Lists of keys with counts as they stand, as plain functions: an item put, a key taken out, a key offered; and what holds of them: nothing of the program is in this text.
-/
import Derived.Test.YtihealembikkiaaOctNum
namespace Go.Proofs.Ytihealembikkiaa.Hv
set_option linter.unusedVariables false
set_option maxRecDepth 20000

/-- A key and its count. -/
structure Itm where
  k : ByteArray
  c : Int
/-- Does a key stand ahead of another, by its bytes? -/
def lessK (a b : ByteArray) : Prop := a.data.toList < b.data.toList
theorem key_ext {a b : ByteArray} (h : a.data.toList = b.data.toList) : a = b := by
  cases a; cases b
  simp only [ByteArray.mk.injEq]
  exact Array.toList_inj.1 h
theorem lessK_irrefl (a : ByteArray) : ¬ lessK a a := List.lt_irrefl _
theorem lessK_trans {a b c : ByteArray} (h : lessK a b) (k : lessK b c) : lessK a c := List.lt_trans h k
theorem lessK_asymm {a b : ByteArray} (h : lessK a b) : ¬ lessK b a := fun k => lessK_irrefl a (lessK_trans h k)
theorem lessK_total {a b : ByteArray} (h : a ≠ b) : lessK a b ∨ lessK b a := by
  by_cases k : a.data.toList < b.data.toList
  · exact Or.inl k
  · by_cases j : b.data.toList < a.data.toList
    · exact Or.inr j
    · exact absurd (key_ext (List.le_antisymm (List.not_lt.1 j) (List.not_lt.1 k))) h
/-- Does an item stand ahead of another? -/
def Ahead (a b : Itm) : Prop := a.c > b.c ∨ (a.c = b.c ∧ lessK a.k b.k)
def aheadB (a b : Itm) : Bool := decide (a.c > b.c ∨ (a.c = b.c ∧ a.k.data.toList < b.k.data.toList))
theorem aheadB_iff (a b : Itm) : aheadB a b = true ↔ Ahead a b := by unfold aheadB; exact decide_eq_true_iff
theorem ahead_irrefl (a : Itm) : ¬ Ahead a a := fun h => h.elim (fun h => by omega) fun h => lessK_irrefl _ h.2
theorem ahead_trans {a b c : Itm} (h : Ahead a b) (k : Ahead b c) : Ahead a c := by
  rcases h with h | ⟨h, h2⟩ <;> rcases k with k | ⟨k, k2⟩
  · exact Or.inl (by omega)
  · exact Or.inl (by omega)
  · exact Or.inl (by omega)
  · exact Or.inr ⟨by omega, lessK_trans h2 k2⟩
theorem ahead_total {a b : Itm} (h : a.k ≠ b.k) : Ahead a b ∨ Ahead b a := by
  unfold Ahead
  rcases lessK_total h with k | k
  · by_cases e : a.c ≥ b.c
    · by_cases e2 : a.c = b.c
      · exact Or.inl (Or.inr ⟨e2, k⟩)
      · exact Or.inl (Or.inl (by omega))
    · exact Or.inr (Or.inl (by omega))
  · by_cases e : b.c ≥ a.c
    · by_cases e2 : b.c = a.c
      · exact Or.inr (Or.inr ⟨e2, k⟩)
      · exact Or.inr (Or.inl (by omega))
    · exact Or.inl (Or.inl (by omega))
theorem ahead_ge {a b : Itm} (h : Ahead a b) : a.c ≥ b.c := by rcases h with h | ⟨h, _⟩ <;> omega

/-- An item put into a list as they stand. -/
def putL : List Itm → Itm → List Itm
  | [], x => [x]
  | y :: r, x => if aheadB x y = true then x :: y :: r else y :: putL r x
/-- A list without a key. -/
def withoutL (l : List Itm) (key : ByteArray) : List Itm := l.filter fun y => decide (y.k ≠ key)
theorem putL_mem (l : List Itm) (x y : Itm) : y ∈ putL l x ↔ y = x ∨ y ∈ l := by
  induction l with
  | nil => simp [putL]
  | cons z r ih =>
    rw [putL]
    split
    · simp
    · simp only [List.mem_cons, ih]
      constructor
      · rintro (h | h | h)
        · exact Or.inr (Or.inl h)
        · exact Or.inl h
        · exact Or.inr (Or.inr h)
      · rintro (h | h | h)
        · exact Or.inr (Or.inl h)
        · exact Or.inl h
        · exact Or.inr (Or.inr h)
theorem putL_length (l : List Itm) (x : Itm) : (putL l x).length = l.length + 1 := by
  induction l with
  | nil => rfl
  | cons z r ih =>
    rw [putL]
    split
    · rfl
    · rw [List.length_cons, List.length_cons, ih]
/-- Do they stand, each key once? -/
def StandsL (l : List Itm) : Prop := l.Pairwise fun a b => Ahead a b ∧ a.k ≠ b.k
theorem putL_stands {l : List Itm} {x : Itm} (h : StandsL l) (n : ∀ y, y ∈ l → y.k ≠ x.k) : StandsL (putL l x) := by
  unfold StandsL at h ⊢
  induction l with
  | nil => simp [putL]
  | cons z r ih =>
    rw [List.pairwise_cons] at h
    have nz := n z List.mem_cons_self
    rw [putL]
    by_cases e : aheadB x z = true
    · rw [if_pos e, List.pairwise_cons, List.pairwise_cons]
      refine ⟨fun a ha => ?_, h⟩
      refine ⟨?_, (n a ha).symm⟩
      rcases List.mem_cons.1 ha with rfl | m
      · exact (aheadB_iff _ _).1 e
      · exact ahead_trans ((aheadB_iff _ _).1 e) (h.1 a m).1
    · rw [if_neg e, List.pairwise_cons]
      refine ⟨fun a ha => ?_, ih h.2 fun y m => n y (List.mem_cons_of_mem _ m)⟩
      rcases (putL_mem r x a).1 ha with rfl | m
      · exact ⟨(ahead_total nz).resolve_right fun h => e ((aheadB_iff _ _).2 h), nz⟩
      · exact h.1 a m
theorem without_mem (l : List Itm) (key : ByteArray) (y : Itm) : y ∈ withoutL l key ↔ y ∈ l ∧ y.k ≠ key := by simp [withoutL]
theorem without_stands {l : List Itm} (h : StandsL l) (key : ByteArray) : StandsL (withoutL l key) := List.Pairwise.filter _ h
theorem without_length {l : List Itm} (h : StandsL l) (key : ByteArray) : (withoutL l key).length = l.length ∧ (∀ y, y ∈ l → y.k ≠ key) ∨ (withoutL l key).length + 1 = l.length ∧ ∃ y, y ∈ l ∧ y.k = key := by
  unfold StandsL at h
  induction l with
  | nil => exact Or.inl ⟨rfl, fun y m => by cases m⟩
  | cons z r ih =>
    rw [List.pairwise_cons] at h
    by_cases e : z.k = key
    · refine Or.inr ⟨?_, z, List.mem_cons_self, e⟩
      have nr : ∀ y, y ∈ r → y.k ≠ key := fun y m k => (h.1 y m).2 (e.trans k.symm)
      have : withoutL (z :: r) key = r := by
        unfold withoutL
        rw [List.filter_cons_of_neg (by simpa using e)]
        exact List.filter_eq_self.2 fun y m => by simpa using nr y m
      rw [this]
      rfl
    · have w : withoutL (z :: r) key = z :: withoutL r key := by
        unfold withoutL
        rw [List.filter_cons_of_pos (by simpa using e)]
      rw [w]
      rcases ih h.2 with ⟨a, b⟩ | ⟨a, y, m, k⟩
      · refine Or.inl ⟨by simp [a], fun y m => ?_⟩
        rcases List.mem_cons.1 m with rfl | m
        · exact e
        · exact b y m
      · exact Or.inr ⟨by simp; omega, y, List.mem_cons_of_mem _ m, k⟩
/-- The last one's count. -/
def lastC (l : List Itm) : Int := match l.getLast? with | some z => z.c | none => 0
/-- A key offered: the list, and whether it is there. -/
def offerL (room : Nat) (l : List Itm) (key : ByteArray) (count : Int) : List Itm × Bool :=
  if (withoutL l key).length < l.length ∨ l.length < room then (putL (withoutL l key) ⟨key, count⟩, true)
  else if count > lastC l then (putL l.dropLast ⟨key, count⟩, true)
  else (l, false)
theorem without_all {l : List Itm} {key : ByteArray} (h : ∀ y, y ∈ l → y.k ≠ key) : withoutL l key = l := List.filter_eq_self.2 fun y m => by simpa using h y m
theorem offer_stands {room : Nat} {l : List Itm} (h : StandsL l) (key : ByteArray) (count : Int) : StandsL (offerL room l key count).1 := by
  unfold offerL
  split
  · exact putL_stands (without_stands h key) fun y m => ((without_mem _ _ _).1 m).2
  · rename_i n
    split
    · refine putL_stands (List.Pairwise.sublist (List.dropLast_sublist l) h) fun y m => ?_
      rcases without_length h key with ⟨_, b⟩ | ⟨b, _⟩
      · exact b y (List.dropLast_sublist l |>.subset m)
      · exact absurd (Or.inl (by omega)) n
    · exact h
theorem offer_length {room : Nat} {l : List Itm} (h : StandsL l) (r1 : 1 ≤ room) (hl : l.length ≤ room) (key : ByteArray) (count : Int) :
    (offerL room l key count).1.length ≤ room ∧ l.length ≤ (offerL room l key count).1.length ∧ ((∀ y, y ∈ l → y.k ≠ key) → l.length < room → (offerL room l key count).1.length = l.length + 1) ∧ (l.length = room → (offerL room l key count).1.length = room) ∧ ((∃ y, y ∈ l ∧ y.k = key) → (offerL room l key count).1.length = l.length) := by
  unfold offerL
  rcases without_length h key with ⟨a, b⟩ | ⟨a, b⟩
  · have nb : ¬ ∃ y, y ∈ l ∧ y.k = key := fun ⟨y, m, e⟩ => b y m e
    by_cases e : l.length < room
    · rw [if_pos (Or.inr e)]
      simp only [putL_length]
      refine ⟨by omega, by omega, fun _ _ => by omega, fun _ => by omega, fun x => absurd x nb⟩
    · rw [if_neg (by omega)]
      by_cases e2 : count > lastC l
      · rw [if_pos e2]
        simp only [putL_length, List.length_dropLast]
        refine ⟨by omega, by omega, fun _ _ => by omega, fun _ => by omega, fun x => absurd x nb⟩
      · rw [if_neg e2]
        refine ⟨hl, Nat.le_refl _, fun _ _ => by omega, fun e => e, fun x => absurd x nb⟩
  · rw [if_pos (Or.inl (by omega))]
    simp only [putL_length]
    refine ⟨by omega, by omega, fun n _ => ?_, fun _ => by omega, fun _ => by omega⟩
    obtain ⟨y, m, e⟩ := b
    exact absurd e (n y m)
/-- Keys offered, one behind the other. -/
def offersL (room : Nat) (q : Nat → Itm) : Nat → List Itm
  | 0 => []
  | k + 1 => (offerL room (offersL room q k) (q k).k (q k).c).1
theorem offers_stands (room : Nat) (q : Nat → Itm) : ∀ k, StandsL (offersL room q k)
  | 0 => List.Pairwise.nil
  | k + 1 => offer_stands (offers_stands room q k) _ _
theorem offers_length {room : Nat} (r1 : 1 ≤ room) (q : Nat → Itm) : ∀ k, (offersL room q k).length ≤ room
  | 0 => Nat.zero_le _
  | k + 1 => (offer_length (offers_stands room q k) r1 (offers_length r1 q k) _ _).1

/-! ### Keys that are offered once each: those that are there have the greatest counts -/
theorem last_least {l : List Itm} (h : StandsL l) {y : Itm} (m : y ∈ l) : lastC l ≤ y.c := by
  unfold StandsL at h
  unfold lastC
  have hne : l ≠ [] := fun e => by rw [e] at m; cases m
  rw [List.getLast?_eq_some_getLast hne]
  show (l.getLast hne).c ≤ y.c
  have e : l = l.dropLast ++ [l.getLast hne] := (List.dropLast_concat_getLast hne).symm
  rw [e] at m h
  rcases List.mem_append.1 m with m | m
  · exact ahead_ge ((List.pairwise_append.1 h).2.2 y m _ (List.mem_singleton.2 rfl)).1
  · rw [List.mem_singleton.1 m]
    exact Int.le_refl _
theorem last_mem {l : List Itm} (hne : l ≠ []) : ∃ z, z ∈ l ∧ lastC l = z.c := ⟨l.getLast hne, List.getLast_mem hne, by unfold lastC; rw [List.getLast?_eq_some_getLast hne]⟩
/-- What is there came; as many as came, or as there is room; what is not there has no more than the last one. -/
theorem offers_top {room : Nat} (r1 : 1 ≤ room) (q : Nat → Itm) : ∀ k, (∀ i j, i < k → j < k → (q i).k = (q j).k → i = j) →
    (offersL room q k).length = min k room ∧ (∀ y, y ∈ offersL room q k → ∃ i, i < k ∧ y = q i) ∧ (∀ i, i < k → q i ∉ offersL room q k → (q i).c ≤ lastC (offersL room q k) ∧ offersL room q k ≠ [])
  | 0, _ => ⟨by simp [offersL], (fun y m => by cases m), fun i hi => by omega⟩
  | k + 1, u => by
    obtain ⟨h1, h2, h3⟩ := offers_top r1 q k fun i j hi hj => u i j (by omega) (by omega)
    have st := offers_stands room q k
    have st2 := offers_stands room q (k + 1)
    have hl := offers_length r1 q k
    have new : ∀ y, y ∈ offersL room q k → y.k ≠ (q k).k := fun y m e => by
      obtain ⟨i, hi, rfl⟩ := h2 y m
      have := u i k (by omega) (by omega) e
      omega
    have el := offer_length st r1 hl (q k).k (q k).c
    have eo : offersL room q (k + 1) = (offerL room (offersL room q k) (q k).k (q k).c).1 := rfl
    have ew : withoutL (offersL room q k) (q k).k = offersL room q k := without_all new
    have ei : (⟨(q k).k, (q k).c⟩ : Itm) = q k := rfl
    refine ⟨?_, ?_, ?_⟩
    · rw [eo]
      by_cases e : (offersL room q k).length < room
      · rw [el.2.2.1 new e]; omega
      · rw [el.2.2.2.1 (by omega)]; omega
    · intro y m
      rw [eo] at m
      unfold offerL at m
      rw [ew, ei] at m
      have fin : ∀ l, (∀ z, z ∈ l → z ∈ offersL room q k) → y ∈ putL l (q k) → ∃ i, i < k + 1 ∧ y = q i := fun l hs m => by
        rcases (putL_mem _ _ _).1 m with rfl | m
        · exact ⟨k, by omega, rfl⟩
        · obtain ⟨i, hi, e⟩ := h2 y (hs y m)
          exact ⟨i, by omega, e⟩
      split at m
      · exact fin _ (fun z m => m) m
      · split at m
        · exact fin _ (fun z m => List.dropLast_sublist _ |>.subset m) m
        · obtain ⟨i, hi, e⟩ := h2 y m
          exact ⟨i, by omega, e⟩
    · intro i hi ni
      rw [eo] at ni ⊢
      unfold offerL at ni ⊢
      rw [ew, ei] at ni ⊢
      by_cases e : (offersL room q k).length < room
      · rw [if_pos (Or.inr e)] at ni ⊢
        exfalso
        refine ni ((putL_mem _ _ _).2 ?_)
        by_cases ik : i = k
        · exact Or.inl (by rw [ik])
        · refine Or.inr (Classical.byContradiction fun n => ?_)
          -- all that came is there while there is room
          have : ∀ j, j ≤ k → (offersL room q j).length < room → ∀ i, i < j → q i ∈ offersL room q j := fun j => by
            induction j with
            | zero => intro _ _ i hi; omega
            | succ j ih =>
              intro hj hr i hi
              have sj := offers_stands room q j
              have lj := offers_length r1 q j
              have ej := offer_length sj r1 lj (q j).k (q j).c
              have hrj : (offersL room q j).length < room := by
                have : (offersL room q j).length ≤ (offersL room q (j + 1)).length := ej.2.1
                omega
              show q i ∈ (offerL room (offersL room q j) (q j).k (q j).c).1
              unfold offerL
              rw [if_pos (Or.inr hrj)]
              refine (putL_mem _ _ _).2 ?_
              by_cases ij : i = j
              · exact Or.inl (by rw [ij])
              · refine Or.inr ((without_mem _ _ _).2 ⟨ih (by omega) hrj i (by omega), fun ek => ?_⟩)
                have := u i j (by omega) (by omega) ek
                omega
          exact n (this k (Nat.le_refl _) e i (by omega))
      · have hne : offersL room q k ≠ [] := fun h => by rw [h] at e; simp at e; omega
        rw [if_neg (by omega)] at ni ⊢
        by_cases e2 : (q k).c > lastC (offersL room q k)
        · rw [if_pos e2] at ni ⊢
          have np : putL (offersL room q k).dropLast (q k) ≠ [] := fun h => by have := putL_length (offersL room q k).dropLast (q k); rw [h] at this; simp at this
          refine ⟨?_, np⟩
          show (q i).c ≤ lastC (putL (offersL room q k).dropLast (q k))
          obtain ⟨z, mz, ez⟩ := last_mem np
          have sp : StandsL (putL (offersL room q k).dropLast (q k)) := by
            have := st2
            rw [eo] at this
            unfold offerL at this
            rw [ew, ei, if_neg (by omega), if_pos e2] at this
            exact this
          have low : lastC (offersL room q k) ≤ lastC (putL (offersL room q k).dropLast (q k)) := by
            rw [ez]
            rcases (putL_mem _ _ _).1 mz with rfl | m
            · omega
            · exact last_least st (List.dropLast_sublist _ |>.subset m)
          have ik : i ≠ k := fun h => ni ((putL_mem _ _ _).2 (Or.inl (by rw [h])))
          by_cases mi : q i ∈ offersL room q k
          · -- it is the last one that went
            have e3 : offersL room q k = (offersL room q k).dropLast ++ [(offersL room q k).getLast hne] := (List.dropLast_concat_getLast hne).symm
            rw [e3] at mi
            rcases List.mem_append.1 mi with mi | mi
            · exact absurd ((putL_mem _ _ _).2 (Or.inr mi)) ni
            · have : lastC (offersL room q k) = (q i).c := by
                rw [List.mem_singleton.1 mi]
                unfold lastC
                rw [List.getLast?_eq_some_getLast hne]
              omega
          · have := (h3 i (by omega) mi).1
            omega
        · rw [if_neg e2] at ni ⊢
          refine ⟨?_, hne⟩
          show (q i).c ≤ lastC (offersL room q k)
          by_cases ik : i = k
          · rw [ik]; omega
          · exact (h3 i (by omega) ni).1
/-! ### While there is room each key is there with its last count -/
/-- The last items, each key once, as they came first. -/
def setL (l : List Itm) (x : Itm) : List Itm := if l.any (fun y => decide (y.k = x.k)) = true then l.map (fun y => if y.k = x.k then x else y) else l ++ [x]
def lastsL (q : Nat → Itm) : Nat → List Itm
  | 0 => []
  | k + 1 => setL (lastsL q k) (q k)
theorem any_key (l : List Itm) (key : ByteArray) : l.any (fun y => decide (y.k = key)) = true ↔ ∃ y, y ∈ l ∧ y.k = key := by
  rw [List.any_eq_true]
  constructor
  · rintro ⟨y, m, h⟩; exact ⟨y, m, by simpa using h⟩
  · rintro ⟨y, m, h⟩; exact ⟨y, m, by simpa using h⟩
theorem setL_mem (l : List Itm) (x y : Itm) : y ∈ setL l x ↔ y = x ∨ (y ∈ l ∧ y.k ≠ x.k) := by
  unfold setL
  by_cases e : l.any (fun y => decide (y.k = x.k)) = true
  · rw [if_pos e, List.mem_map]
    obtain ⟨z, mz, ez⟩ := (any_key _ _).1 e
    constructor
    · rintro ⟨a, ma, ha⟩
      by_cases c : a.k = x.k
      · rw [if_pos c] at ha; exact Or.inl ha.symm
      · rw [if_neg c] at ha; exact Or.inr ⟨ha ▸ ma, ha ▸ c⟩
    · rintro (rfl | ⟨m, n⟩)
      · exact ⟨z, mz, if_pos ez⟩
      · exact ⟨y, m, if_neg n⟩
  · rw [if_neg e, List.mem_append, List.mem_singleton]
    have nk : ∀ z, z ∈ l → z.k ≠ x.k := fun z m h => e ((any_key _ _).2 ⟨z, m, h⟩)
    constructor
    · rintro (m | rfl)
      · exact Or.inr ⟨m, nk y m⟩
      · exact Or.inl rfl
    · rintro (rfl | ⟨m, _⟩)
      · exact Or.inr rfl
      · exact Or.inl m
theorem setL_length (l : List Itm) (x : Itm) : (setL l x).length = l.length ∧ (∃ y, y ∈ l ∧ y.k = x.k) ∨ (setL l x).length = l.length + 1 ∧ (∀ y, y ∈ l → y.k ≠ x.k) := by
  unfold setL
  by_cases e : l.any (fun y => decide (y.k = x.k)) = true
  · rw [if_pos e]
    exact Or.inl ⟨by simp, (any_key _ _).1 e⟩
  · rw [if_neg e]
    exact Or.inr ⟨by simp, fun y m h => e ((any_key _ _).2 ⟨y, m, h⟩)⟩
theorem offer_mem_room {room : Nat} {l : List Itm} {key : ByteArray} {count : Int} (h : (∃ y, y ∈ l ∧ y.k = key) ∨ l.length < room) (st : StandsL l) (y : Itm) : y ∈ (offerL room l key count).1 ↔ y = ⟨key, count⟩ ∨ (y ∈ l ∧ y.k ≠ key) := by
  have c : (withoutL l key).length < l.length ∨ l.length < room := by
    rcases h with h | h
    · rcases without_length st key with ⟨_, b⟩ | ⟨b, _⟩
      · obtain ⟨z, m, e⟩ := h
        exact absurd e (b z m)
      · exact Or.inl (by omega)
    · exact Or.inr h
  unfold offerL
  rw [if_pos c]
  show y ∈ putL (withoutL l key) ⟨key, count⟩ ↔ _
  rw [putL_mem, without_mem]
theorem offers_keep {room : Nat} (r1 : 1 ≤ room) (q : Nat → Itm) : ∀ k, (lastsL q k).length ≤ room → (offersL room q k).length = (lastsL q k).length ∧ ∀ y, y ∈ offersL room q k ↔ y ∈ lastsL q k
  | 0, _ => ⟨rfl, fun y => Iff.rfl⟩
  | k + 1, h => by
    have st := offers_stands room q k
    have hl := offers_length r1 q k
    have el := offer_length st r1 hl (q k).k (q k).c
    have sl := setL_length (lastsL q k) (q k)
    have hk : (lastsL q k).length ≤ room := by
      have : (setL (lastsL q k) (q k)).length ≤ room := h
      omega
    obtain ⟨h1, h2⟩ := offers_keep r1 q k hk
    have room' : (∃ y, y ∈ offersL room q k ∧ y.k = (q k).k) ∨ (offersL room q k).length < room := by
      rcases sl with ⟨_, y, m, e⟩ | ⟨e, _⟩
      · exact Or.inl ⟨y, (h2 y).2 m, e⟩
      · have : (setL (lastsL q k) (q k)).length ≤ room := h
        exact Or.inr (by omega)
    refine ⟨?_, fun y => ?_⟩
    · show (offerL room (offersL room q k) (q k).k (q k).c).1.length = (setL (lastsL q k) (q k)).length
      rcases sl with ⟨e, y, m, ek⟩ | ⟨e, n⟩
      · rw [el.2.2.2.2 ⟨y, (h2 y).2 m, ek⟩, e, h1]
      · have : (setL (lastsL q k) (q k)).length ≤ room := h
        rw [el.2.2.1 (fun y m => n y ((h2 y).1 m)) (by omega), e, h1]
    · show y ∈ (offerL room (offersL room q k) (q k).k (q k).c).1 ↔ y ∈ setL (lastsL q k) (q k)
      rw [offer_mem_room room' st, setL_mem, h2 y]
/-- A key's count, if it is there. -/
def getL (l : List Itm) (key : ByteArray) : Option Int := (l.find? fun y => decide (y.k = key)).map (·.c)
theorem getL_none {l : List Itm} {key : ByteArray} (h : ∀ y, y ∈ l → y.k ≠ key) : getL l key = none := by
  unfold getL
  rw [List.find?_eq_none.2 fun y m => by simpa using h y m]
  rfl
theorem stands_one {l : List Itm} (st : StandsL l) {y z : Itm} (my : y ∈ l) (mz : z ∈ l) (e : y.k = z.k) : y = z := by
  unfold StandsL at st
  induction l with
  | nil => cases my
  | cons a r ih =>
    rw [List.pairwise_cons] at st
    rcases List.mem_cons.1 my with e1 | m1
    · rcases List.mem_cons.1 mz with e2 | m2
      · rw [e1, e2]
      · exact absurd (by rw [← e1]; exact e) (st.1 z m2).2
    · rcases List.mem_cons.1 mz with e2 | m2
      · exact absurd (by rw [← e2]; exact e.symm) (st.1 y m1).2
      · exact ih st.2 m1 m2
theorem getL_some {l : List Itm} (st : StandsL l) {y : Itm} (m : y ∈ l) : getL l y.k = some y.c := by
  unfold getL
  cases e : l.find? (fun z => decide (z.k = y.k)) with
  | none =>
    have := List.find?_eq_none.1 e y m
    simp at this
  | some z =>
    have hz := List.find?_some e
    have mz := List.mem_of_find?_eq_some e
    have ek : z.k = y.k := by simpa using hz
    have : z = y := stands_one st mz m ek
    rw [this]
    rfl
end Go.Proofs.Ytihealembikkiaa.Hv
