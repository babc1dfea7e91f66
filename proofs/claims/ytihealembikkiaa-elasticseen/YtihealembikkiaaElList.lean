
/-
  The entries of a sketch as items that stand (layer 15): what holds of them, plain.
-/
import Derived.Test.YtihealembikkiaaElCtr
namespace Go.Proofs.Ytihealembikkiaa
open Go.RowKit Fm Bl Lt El L2 L10 L14 Go.Deep
set_option linter.unusedVariables false
set_option maxRecDepth 20000

/-- All counts. -/
def sumC : List Hv.Itm → Int
  | [] => 0
  | x :: r => x.c + sumC r
theorem sumC_append : ∀ l m, sumC (l ++ m) = sumC l + sumC m
  | [], m => by simp [sumC]
  | x :: r, m => by rw [List.cons_append, sumC, sumC, sumC_append r m]; omega
theorem sumC_put : ∀ (l : List Hv.Itm) (x : Hv.Itm), sumC (Hv.putL l x) = sumC l + x.c
  | [], x => by simp [Hv.putL, sumC]
  | y :: r, x => by
    rw [Hv.putL]
    split
    · simp only [sumC]; omega
    · simp only [sumC, sumC_put r x]; omega
theorem sumC_nn : ∀ {l : List Hv.Itm}, (∀ x, x ∈ l → 0 ≤ x.c) → 0 ≤ sumC l
  | [], _ => Int.le_refl _
  | x :: r, h => by
    have := sumC_nn (l := r) fun y m => h y (List.mem_cons_of_mem _ m)
    have := h x (List.mem_cons_self ..)
    rw [sumC]
    omega
theorem sumC_take {l : List Hv.Itm} (h : ∀ x, x ∈ l → 0 ≤ x.c) (k : Nat) : 0 ≤ sumC (l.take k) ∧ sumC (l.take k) ≤ sumC l := by
  have e : sumC l = sumC (l.take k) + sumC (l.drop k) := by rw [← sumC_append, List.take_append_drop]
  have := sumC_nn (l := l.drop k) fun x m => h x (List.mem_of_mem_drop m)
  have := sumC_nn (l := l.take k) fun x m => h x (List.mem_of_mem_take m)
  omega
theorem sumC_next {l : List Hv.Itm} {k : Nat} {x : Hv.Itm} (h : l[k]? = some x) : sumC (l.take (k + 1)) = sumC (l.take k) + x.c := by
  rw [take_nextE h, sumC_append]
  simp [sumC]
theorem listEs_mem (most : Int) : ∀ (es : List Ent) (l : List Hv.Itm) (x : Hv.Itm), x ∈ listEs most l es ↔ x ∈ l ∨ ∃ e, e ∈ es ∧ e.v ≥ most ∧ x = ⟨e.k, e.v⟩
  | [], l, x => by simp [listEs]
  | e :: r, l, x => by
    rw [listEs, listEs_mem most r]
    by_cases h : e.v ≥ most
    · rw [if_pos h, Hv.putL_mem]
      constructor
      · rintro ((rfl | m) | ⟨y, m, a, b⟩)
        · exact Or.inr ⟨e, List.mem_cons_self .., h, rfl⟩
        · exact Or.inl m
        · exact Or.inr ⟨y, List.mem_cons_of_mem _ m, a, b⟩
      · rintro (m | ⟨y, m, a, b⟩)
        · exact Or.inl (Or.inr m)
        · rcases List.mem_cons.1 m with rfl | m
          · exact Or.inl (Or.inl b)
          · exact Or.inr ⟨y, m, a, b⟩
    · rw [if_neg h]
      constructor
      · rintro (m | ⟨y, m, a, b⟩)
        · exact Or.inl m
        · exact Or.inr ⟨y, List.mem_cons_of_mem _ m, a, b⟩
      · rintro (m | ⟨y, m, a, b⟩)
        · exact Or.inl m
        · rcases List.mem_cons.1 m with rfl | m
          · exact absurd a h
          · exact Or.inr ⟨y, m, a, b⟩
theorem listBs_mem (most : Int) : ∀ (bs : List Bkt) (l : List Hv.Itm) (x : Hv.Itm), x ∈ listBs most l bs ↔ x ∈ l ∨ ∃ b, b ∈ bs ∧ ∃ e, e ∈ b.es ∧ e.v ≥ most ∧ x = ⟨e.k, e.v⟩
  | [], l, x => by simp [listBs]
  | b :: r, l, x => by
    rw [listBs, listBs_mem most r, listEs_mem]
    constructor
    · rintro ((m | h) | ⟨y, m, h⟩)
      · exact Or.inl m
      · exact Or.inr ⟨b, List.mem_cons_self .., h⟩
      · exact Or.inr ⟨y, List.mem_cons_of_mem _ m, h⟩
    · rintro (m | ⟨y, m, h⟩)
      · exact Or.inl (Or.inl m)
      · rcases List.mem_cons.1 m with rfl | m
        · exact Or.inl (Or.inr h)
        · exact Or.inr ⟨y, m, h⟩
theorem listEs_sum {most : Int} : ∀ {es : List Ent} {l : List Hv.Itm}, (∀ e, e ∈ es → e.v ≥ most) → sumC (listEs most l es) = sumC l + sumE (fun _ => true) es ∧ (listEs most l es).length = l.length + es.length
  | [], l, _ => by simp [listEs, sumE]
  | e :: r, l, h => by
    obtain ⟨h1, h2⟩ := listEs_sum (l := Hv.putL l ⟨e.k, e.v⟩) (es := r) fun y m => h y (List.mem_cons_of_mem _ m)
    rw [listEs, if_pos (h e (List.mem_cons_self ..)), h1, h2, sumC_put, Hv.putL_length, sumE, if_pos rfl, List.length_cons]
    exact ⟨by show sumC l + e.v + _ = _; omega, by omega⟩
/-- How many entries there are. -/
def cntB : List Bkt → Nat
  | [] => 0
  | b :: r => b.es.length + cntB r
theorem listBs_sum {most : Int} : ∀ {bs : List Bkt} {l : List Hv.Itm}, (∀ b, b ∈ bs → ∀ e, e ∈ b.es → e.v ≥ most) → sumC (listBs most l bs) = sumC l + sumB (fun _ => true) bs ∧ (listBs most l bs).length = l.length + cntB bs
  | [], l, _ => by simp [listBs, sumB, cntB]
  | b :: r, l, h => by
    obtain ⟨e1, e2⟩ := listEs_sum (most := most) (l := l) (h b (List.mem_cons_self ..))
    obtain ⟨h1, h2⟩ := listBs_sum (most := most) (l := listEs most l b.es) (bs := r) fun y m => h y (List.mem_cons_of_mem _ m)
    rw [listBs, h1, h2, e1, e2, sumB, cntB]
    exact ⟨by omega, by omega⟩
theorem cntB_le {room : Nat} : ∀ {bs : List Bkt}, (∀ b, b ∈ bs → b.es.length ≤ room) → cntB bs ≤ bs.length * room
  | [], _ => by simp [cntB]
  | b :: r, h => by
    have h1 := cntB_le (bs := r) fun y m => h y (List.mem_cons_of_mem _ m)
    have h2 := h b (List.mem_cons_self ..)
    rw [cntB, List.length_cons, Nat.succ_mul]
    omega
theorem listBs_len (most : Int) : ∀ (bs : List Bkt) (l : List Hv.Itm), (listBs most l bs).length ≤ l.length + cntB bs
  | [], l => by simp [listBs, cntB]
  | b :: r, l => by
    have h1 : ∀ (es : List Ent) (l : List Hv.Itm), (listEs most l es).length ≤ l.length + es.length := by
      intro es
      induction es with
      | nil => intro l; simp [listEs]
      | cons e q ih =>
        intro l
        rw [listEs, List.length_cons]
        have := ih (if e.v ≥ most then Hv.putL l ⟨e.k, e.v⟩ else l)
        split at this
        · rename_i g
          rw [if_pos g]
          rw [Hv.putL_length] at this
          omega
        · rename_i g
          rw [if_neg g]
          omega
    have h2 := listBs_len most r (listEs most l b.es)
    have h3 := h1 b.es l
    rw [listBs, cntB]
    omega
end Go.Proofs.Ytihealembikkiaa
