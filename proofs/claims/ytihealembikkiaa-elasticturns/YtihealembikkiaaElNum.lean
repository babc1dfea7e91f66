
/-
  Heavy flows apart, light ones together, as plain functions (layer 15): a bucket with a key more, a sketch with a key more, what it tells; and what holds of keys that came: nothing of the program is in this text.
-/
import Derived.Test.YtihealembikkiaaLstNum
import Derived.Test.YtihealembikkiaaHevNum
namespace Go.Proofs.Ytihealembikkiaa.El
open Fm Bl Lt
set_option linter.unusedVariables false
set_option maxRecDepth 20000

/-- A key with its votes; may it have been among the light ones? -/
structure Ent where
  k : ByteArray
  v : Int
  f : Bool
/-- Entries, and votes against them. -/
structure Bkt where
  es : List Ent
  ag : Int
theorem ent_eta (e : Ent) : (⟨e.k, e.v, e.f⟩ : Ent) = e := rfl
/-- The place of a key among entries. -/
def atE : List Ent → ByteArray → Option Nat
  | [], _ => none
  | e :: r, s => if e.k = s then some 0 else (atE r s).map (· + 1)
theorem atE_some {l : List Ent} {s : ByteArray} {i : Nat} (h : atE l s = some i) : ∃ e, l[i]? = some e ∧ e.k = s := by
  induction l generalizing i with
  | nil => cases h
  | cons e r ih =>
    rw [atE] at h
    by_cases q : e.k = s
    · rw [if_pos q] at h
      cases h
      exact ⟨e, rfl, q⟩
    · rw [if_neg q] at h
      cases g : atE r s with
      | none => rw [g] at h; cases h
      | some j =>
        rw [g] at h
        cases h
        obtain ⟨x, h1, h2⟩ := ih g
        exact ⟨x, by rw [List.getElem?_cons_succ]; exact h1, h2⟩
theorem atE_first {l : List Ent} {s : ByteArray} {i : Nat} (h : atE l s = some i) : ∀ j e, j < i → l[j]? = some e → e.k ≠ s := by
  induction l generalizing i with
  | nil => cases h
  | cons x r ih =>
    rw [atE] at h
    by_cases q : x.k = s
    · rw [if_pos q] at h
      cases h
      intro j e hj
      omega
    · rw [if_neg q] at h
      cases g : atE r s with
      | none => rw [g] at h; cases h
      | some t =>
        rw [g] at h
        cases h
        intro j e hj he
        cases j with
        | zero =>
          simp at he
          rw [← he]
          exact q
        | succ j =>
          rw [List.getElem?_cons_succ] at he
          exact ih g j e (by simp at hj; omega) he
theorem atE_none {l : List Ent} {s : ByteArray} (h : atE l s = none) : ∀ e, e ∈ l → e.k ≠ s := by
  induction l with
  | nil => intro e m; cases m
  | cons x r ih =>
    rw [atE] at h
    by_cases q : x.k = s
    · rw [if_pos q] at h; cases h
    · rw [if_neg q] at h
      have g : atE r s = none := by
        cases g : atE r s with
        | none => rfl
        | some j => rw [g] at h; cases h
      intro e m
      rcases List.mem_cons.1 m with rfl | m
      · exact q
      · exact ih g e m
theorem atE_lt {l : List Ent} {s : ByteArray} {i : Nat} (h : atE l s = some i) : i < l.length := by
  obtain ⟨e, h1, _⟩ := atE_some h
  exact (List.getElem?_eq_some_iff.1 h1).1
/-- How far the search for a key has come. -/
theorem atE_find {l : List Ent} {s : ByteArray} {i : Nat} {e : Ent} (h : l[i]? = some e) (k : e.k = s) (n : ∀ (j : Nat) (x : Ent), j < i → l[j]? = some x → x.k ≠ s) : atE l s = some i := by
  cases g : atE l s with
  | none => exact absurd k (atE_none g e (List.mem_of_getElem? h))
  | some j =>
    obtain ⟨x, h1, h2⟩ := atE_some g
    have h3 := atE_first g
    rcases Nat.lt_trichotomy i j with q | q | q
    · exact absurd k (h3 i e q h)
    · rw [q]
    · exact absurd h2 (n j x q h1)
theorem atE_miss {l : List Ent} {s : ByteArray} (n : ∀ (j : Nat) (x : Ent), l[j]? = some x → x.k ≠ s) : atE l s = none := by
  cases g : atE l s with
  | none => rfl
  | some j =>
    obtain ⟨x, h1, h2⟩ := atE_some g
    exact absurd h2 (n j x h1)
/-- The first one of the fewest votes. -/
def lowE (l : List Ent) : Nat → Nat
  | 0 => 0
  | k + 1 => match l[k]?, l[lowE l k]? with
    | some x, some y => if x.v < y.v then k else lowE l k
    | _, _ => lowE l k
/-- .. of all. -/
def lowAt (l : List Ent) : Nat := lowE l l.length
theorem lowE_lt {l : List Ent} (h : 0 < l.length) : ∀ k, k ≤ l.length → lowE l k < l.length
  | 0, _ => h
  | k + 1, hk => by
    have ih := lowE_lt h k (by omega)
    rw [lowE]
    split
    · split
      · omega
      · exact ih
    · exact ih
theorem lowAt_lt {l : List Ent} (h : 0 < l.length) : lowAt l < l.length := lowE_lt h _ (Nat.le_refl _)
/-- A bucket with a key more: none, if it is full; and what goes to the light ones. -/
def addB (room : Nat) (votes : Int) (b : Bkt) (s : ByteArray) : Option (Bkt × Option (ByteArray × Int)) :=
  match atE b.es s with
  | some i => match b.es[i]? with
    | some e => if e.v + 1 > 1099511627776 then none else some (⟨b.es.set i ⟨e.k, e.v + 1, e.f⟩, b.ag⟩, none)
    | none => none
  | none =>
    if b.es.length < room then some (⟨b.es ++ [⟨s, 1, false⟩], b.ag⟩, none)
    else if b.ag + 1 > 1099511627776 then none
    else match b.es[lowAt b.es]? with
      | some e => if b.ag + 1 ≥ votes * e.v then some (⟨b.es.set (lowAt b.es) ⟨s, 1, true⟩, 0⟩, some (e.k, e.v)) else some (⟨b.es, b.ag + 1⟩, some (s, 1))
      | none => none
theorem addB_at {room : Nat} {votes : Int} {b : Bkt} {s : ByteArray} {i : Nat} {e : Ent} (h : atE b.es s = some i) (he : b.es[i]? = some e) : addB room votes b s = if e.v + 1 > 1099511627776 then none else some (⟨b.es.set i ⟨e.k, e.v + 1, e.f⟩, b.ag⟩, none) := by
  unfold addB
  rw [h]
  simp only [he]
theorem addB_room {room : Nat} {votes : Int} {b : Bkt} {s : ByteArray} (h : atE b.es s = none) (r : b.es.length < room) : addB room votes b s = some (⟨b.es ++ [⟨s, 1, false⟩], b.ag⟩, none) := by
  unfold addB
  rw [h]
  simp only [if_pos r]
theorem addB_full {room : Nat} {votes : Int} {b : Bkt} {s : ByteArray} (h : atE b.es s = none) (r : ¬ b.es.length < room) (a : b.ag + 1 > 1099511627776) : addB room votes b s = none := by
  unfold addB
  rw [h]
  simp only [if_neg r, if_pos a]
theorem addB_low {room : Nat} {votes : Int} {b : Bkt} {s : ByteArray} {e : Ent} (h : atE b.es s = none) (r : ¬ b.es.length < room) (a : ¬ b.ag + 1 > 1099511627776) (he : b.es[lowAt b.es]? = some e) :
    addB room votes b s = if b.ag + 1 ≥ votes * e.v then some (⟨b.es.set (lowAt b.es) ⟨s, 1, true⟩, 0⟩, some (e.k, e.v)) else some (⟨b.es, b.ag + 1⟩, some (s, 1)) := by
  unfold addB
  rw [h]
  simp only [if_neg r, if_neg a, he]
/-- Votes of those entries whose keys are such. -/
def sumE (P : ByteArray → Bool) : List Ent → Int
  | [] => 0
  | e :: r => (if P e.k then e.v else 0) + sumE P r
theorem sumE_append (P : ByteArray → Bool) : ∀ l m, sumE P (l ++ m) = sumE P l + sumE P m
  | [], m => by simp [sumE]
  | e :: r, m => by rw [List.cons_append, sumE, sumE, sumE_append P r m]; omega
theorem sumE_set (P : ByteArray → Bool) : ∀ (l : List Ent) (i : Nat) (e x : Ent), l[i]? = some e → sumE P (l.set i x) = sumE P l - (if P e.k then e.v else 0) + (if P x.k then x.v else 0)
  | [], i, e, x, h => by simp at h
  | y :: r, 0, e, x, h => by
    simp at h
    subst h
    rw [List.set_cons_zero, sumE, sumE]
    omega
  | y :: r, i + 1, e, x, h => by
    rw [List.getElem?_cons_succ] at h
    rw [List.set_cons_succ, sumE, sumE, sumE_set P r i e x h]
    omega
theorem sumE_nn {P : ByteArray → Bool} : ∀ {l : List Ent}, (∀ e, e ∈ l → 0 ≤ e.v) → 0 ≤ sumE P l
  | [], _ => Int.le_refl _
  | e :: r, h => by
    have h1 := sumE_nn (P := P) (l := r) fun x m => h x (List.mem_cons_of_mem _ m)
    have h2 := h e (List.mem_cons_self ..)
    rw [sumE]
    split <;> omega
theorem sumE_le {P : ByteArray → Bool} : ∀ {l : List Ent} {e : Ent}, (∀ e, e ∈ l → 0 ≤ e.v) → e ∈ l → P e.k = true → e.v ≤ sumE P l
  | y :: r, e, h, m, p => by
    have h1 := sumE_nn (P := P) (l := r) fun x m => h x (List.mem_cons_of_mem _ m)
    have h2 := h y (List.mem_cons_self ..)
    rw [sumE]
    rcases List.mem_cons.1 m with rfl | m
    · rw [if_pos p]; omega
    · have := sumE_le (P := P) (l := r) (e := e) (fun x m => h x (List.mem_cons_of_mem _ m)) m p
      split <;> omega
theorem sumE_none {P : ByteArray → Bool} : ∀ {l : List Ent}, (∀ e, e ∈ l → P e.k = false) → sumE P l = 0
  | [], _ => rfl
  | e :: r, h => by
    rw [sumE, if_neg (by rw [h e (List.mem_cons_self ..)]; decide), sumE_none (l := r) fun x m => h x (List.mem_cons_of_mem _ m)]
    rfl
theorem sumE_one {s : ByteArray} : ∀ {l : List Ent} {i : Nat} {e : Ent}, (l.Pairwise fun a b => a.k ≠ b.k) → l[i]? = some e → e.k = s → sumE (fun k => decide (k = s)) l = e.v
  | [], i, e, _, h, _ => by simp at h
  | y :: r, 0, e, p, h, k => by
    simp at h
    subst h
    rw [List.pairwise_cons] at p
    rw [sumE, sumE_none fun x m => by simpa [k] using fun (z : x.k = s) => p.1 x m (by rw [k, z])]
    simp [k]
  | y :: r, i + 1, e, p, h, k => by
    rw [List.getElem?_cons_succ] at h
    rw [List.pairwise_cons] at p
    rw [sumE, sumE_one p.2 h k]
    have : y.k ≠ s := fun z => p.1 e (List.mem_of_getElem? h) (by rw [z, k])
    simp [this]
/-- .. of all buckets. -/
def sumB (P : ByteArray → Bool) : List Bkt → Int
  | [] => 0
  | b :: r => sumE P b.es + sumB P r
theorem sumB_set (P : ByteArray → Bool) : ∀ (l : List Bkt) (i : Nat) (b x : Bkt), l[i]? = some b → sumB P (l.set i x) = sumB P l - sumE P b.es + sumE P x.es
  | [], i, b, x, h => by simp at h
  | y :: r, 0, b, x, h => by
    simp at h
    subst h
    rw [List.set_cons_zero, sumB, sumB]
    omega
  | y :: r, i + 1, b, x, h => by
    rw [List.getElem?_cons_succ] at h
    rw [List.set_cons_succ, sumB, sumB, sumB_set P r i b x h]
    omega
theorem sumB_nn {P : ByteArray → Bool} : ∀ {l : List Bkt}, (∀ b, b ∈ l → ∀ e, e ∈ b.es → 0 ≤ e.v) → 0 ≤ sumB P l
  | [], _ => Int.le_refl _
  | b :: r, h => by
    have h1 := sumB_nn (P := P) (l := r) fun x m => h x (List.mem_cons_of_mem _ m)
    have h2 := sumE_nn (P := P) (l := b.es) (h b (List.mem_cons_self ..))
    rw [sumB]
    omega
theorem sumB_le {P : ByteArray → Bool} : ∀ {l : List Bkt} {b : Bkt}, (∀ b, b ∈ l → ∀ e, e ∈ b.es → 0 ≤ e.v) → b ∈ l → sumE P b.es ≤ sumB P l
  | y :: r, b, h, m => by
    have h1 := sumB_nn (P := P) (l := r) fun x m => h x (List.mem_cons_of_mem _ m)
    have h2 := sumE_nn (P := P) (l := y.es) (h y (List.mem_cons_self ..))
    rw [sumB]
    rcases List.mem_cons.1 m with rfl | m
    · omega
    · have := sumB_le (P := P) (l := r) (b := b) (fun x m => h x (List.mem_cons_of_mem _ m)) m
      omega
theorem sumB_none {P : ByteArray → Bool} : ∀ {l : List Bkt}, (∀ b, b ∈ l → sumE P b.es = 0) → sumB P l = 0
  | [], _ => rfl
  | b :: r, h => by rw [sumB, h b (List.mem_cons_self ..), sumB_none fun x m => h x (List.mem_cons_of_mem _ m)]; rfl
theorem sumB_one {P : ByteArray → Bool} : ∀ {l : List Bkt} {i : Nat} {b : Bkt}, l[i]? = some b → (∀ j x, j ≠ i → l[j]? = some x → sumE P x.es = 0) → sumB P l = sumE P b.es
  | [], i, b, h, _ => by simp at h
  | y :: r, 0, b, h, n => by
    simp at h
    subst h
    rw [sumB, sumB_none fun x m => by
      obtain ⟨j, hj⟩ := List.mem_iff_getElem?.1 m
      exact n (j + 1) x (by omega) (by rw [List.getElem?_cons_succ]; exact hj)]
    omega
  | y :: r, i + 1, b, h, n => by
    rw [List.getElem?_cons_succ] at h
    rw [sumB, n 0 y (by omega) rfl, sumB_one h fun j x hj hx => n (j + 1) x (by omega) (by rw [List.getElem?_cons_succ]; exact hx)]
    omega
end Go.Proofs.Ytihealembikkiaa.El
