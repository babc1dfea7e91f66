
/-
  How the items of a list stand, keys that are the same among them (layer 15): plain mathematics.
-/
import Derived.Test.YtihealembikkiaaElCtr
namespace Go.Proofs.Ytihealembikkiaa
open Go.RowKit Fm Bl Lt El Hv L2 L10 L14 Go.Deep
set_option linter.unusedVariables false
set_option maxRecDepth 20000

theorem itm_one {x y : Itm} (h : ¬ Ahead x y) (k : ¬ Ahead y x) : x = y := by
  obtain ⟨s, c⟩ := x
  obtain ⟨t, d⟩ := y
  unfold Ahead at h k
  simp only [not_or, not_and] at h k
  have e : c = d := by omega
  subst e
  have e2 : s = t := Classical.byContradiction fun n => (lessK_total n).elim (h.2 rfl) (k.2 rfl)
  rw [e2]
/-- None stands ahead of one that is ahead of it. -/
def NoneA (l : List Itm) : Prop := l.Pairwise fun a b => ¬ Ahead b a
theorem putL_noneA {l : List Itm} {x : Itm} (h : NoneA l) : NoneA (putL l x) := by
  unfold NoneA at h ⊢
  induction l with
  | nil => simp [putL]
  | cons y r ih =>
    rw [List.pairwise_cons] at h
    rw [putL]
    by_cases e : aheadB x y = true
    · rw [if_pos e]
      have a := (aheadB_iff _ _).1 e
      rw [List.pairwise_cons]
      refine ⟨fun b hb hx => ?_, List.pairwise_cons.2 h⟩
      rcases List.mem_cons.1 hb with rfl | m
      · exact ahead_irrefl _ (ahead_trans hx a)
      · exact h.1 b m (ahead_trans hx a)
    · rw [if_neg e, List.pairwise_cons]
      refine ⟨fun b hb => ?_, ih h.2⟩
      rcases (putL_mem r x b).1 hb with rfl | m
      · exact fun z => e ((aheadB_iff _ _).2 z)
      · exact h.1 b m
theorem putL_perm : ∀ (l : List Itm) (x : Itm), (putL l x).Perm (x :: l)
  | [], x => List.Perm.refl _
  | y :: r, x => by
    rw [putL]
    split
    · exact List.Perm.refl _
    · exact ((putL_perm r x).cons y).trans (List.Perm.swap x y r)
theorem noneA_unique : ∀ {a b : List Itm}, a.Perm b → NoneA a → NoneA b → a = b
  | [], b, p, _, _ => p.nil_eq
  | x :: r, [], p, _, _ => by have := p.length_eq; simp at this
  | x :: r, y :: t, p, ha, hb => by
    unfold NoneA at ha hb
    rw [List.pairwise_cons] at ha hb
    have e : x = y := by
      rcases List.mem_cons.1 (p.mem_iff.1 (List.mem_cons_self ..)) with h | h
      · exact h
      · rcases List.mem_cons.1 (p.mem_iff.2 (List.mem_cons_self ..)) with k | k
        · exact k.symm
        · exact itm_one (hb.1 x h) (ha.1 y k)
    subst e
    rw [noneA_unique (List.Perm.cons_inv p) ha.2 hb.2]
/-- The items of a bucket, of all buckets, that have so many votes, as they lie. -/
def itE (most : Int) : List Ent → List Itm
  | [] => []
  | e :: r => if e.v ≥ most then ⟨e.k, e.v⟩ :: itE most r else itE most r
def itB (most : Int) : List Bkt → List Itm
  | [] => []
  | b :: r => itE most b.es ++ itB most r
theorem itE_append (most : Int) : ∀ l m, itE most (l ++ m) = itE most l ++ itE most m
  | [], m => rfl
  | e :: r, m => by
    rw [List.cons_append, itE, itE, itE_append most r m]
    split
    · rfl
    · rfl
theorem itB_append (most : Int) : ∀ l m, itB most (l ++ m) = itB most l ++ itB most m
  | [], m => rfl
  | e :: r, m => by rw [List.cons_append, itB, itB, itB_append most r m, List.append_assoc]
theorem itE_len (most : Int) : ∀ l, (itE most l).length ≤ l.length
  | [] => Nat.le_refl _
  | e :: r => by
    have := itE_len most r
    rw [itE]
    split
    · simp only [List.length_cons]; omega
    · simp only [List.length_cons]; omega
theorem listEs_perm (most : Int) : ∀ (es : List Ent) (l : List Itm), (listEs most l es).Perm (l ++ itE most es)
  | [], l => by rw [listEs, itE, List.append_nil]
  | e :: r, l => by
    rw [listEs, itE]
    refine (listEs_perm most r _).trans ?_
    split
    · refine ((putL_perm l _).append_right _).trans ?_
      rw [List.cons_append]
      exact List.perm_middle.symm
    · exact List.Perm.refl _
theorem listEs_noneA (most : Int) : ∀ (es : List Ent) (l : List Itm), NoneA l → NoneA (listEs most l es)
  | [], l, h => h
  | e :: r, l, h => by
    rw [listEs]
    refine listEs_noneA most r _ ?_
    split
    · exact putL_noneA h
    · exact h
theorem listBs_perm (most : Int) : ∀ (bs : List Bkt) (l : List Itm), (listBs most l bs).Perm (l ++ itB most bs)
  | [], l => by rw [listBs, itB, List.append_nil]
  | b :: r, l => by
    rw [listBs, itB]
    refine (listBs_perm most r _).trans ?_
    rw [← List.append_assoc]
    exact (listEs_perm most b.es l).append_right _
theorem listBs_noneA (most : Int) : ∀ (bs : List Bkt) (l : List Itm), NoneA l → NoneA (listBs most l bs)
  | [], l, h => h
  | b :: r, l, h => by
    rw [listBs]
    exact listBs_noneA most r _ (listEs_noneA most b.es l h)
theorem list_sorted {most : Int} {bs : List Bkt} {d : List Itm} (p : d.Perm (itB most bs)) (h : NoneA d) : d = listBs most [] bs :=
  noneA_unique (p.trans (by have := listBs_perm most bs []; rw [List.nil_append] at this; exact this.symm)) h (listBs_noneA most bs [] List.Pairwise.nil)
end Go.Proofs.Ytihealembikkiaa
