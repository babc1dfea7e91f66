
/-
  Keys that came to heavy and light ones (layer 15): what holds of them: nothing of the program is in this text.
-/
import Derived.Test.YtihealembikkiaaElNum
namespace Go.Proofs.Ytihealembikkiaa.El
open Fm Bl Lt
set_option linter.unusedVariables false
set_option maxRecDepth 20000

/-- What came to the light ones, of such keys (the last one ahead). -/
def sumL (P : ByteArray → Bool) : List (ByteArray × Int) → Int
  | [] => 0
  | x :: r => (if P x.1 then x.2 else 0) + sumL P r
theorem sumL_nn {P : ByteArray → Bool} : ∀ {l : List (ByteArray × Int)}, (∀ x, x ∈ l → 0 ≤ x.2) → 0 ≤ sumL P l
  | [], _ => Int.le_refl _
  | x :: r, h => by
    have h1 := sumL_nn (P := P) (l := r) fun y m => h y (List.mem_cons_of_mem _ m)
    have h2 := h x (List.mem_cons_self ..)
    rw [sumL]
    split <;> omega
theorem sumL_mono {P Q : ByteArray → Bool} : ∀ {l : List (ByteArray × Int)}, (∀ x, x ∈ l → 0 ≤ x.2) → (∀ s, P s = true → Q s = true) → sumL P l ≤ sumL Q l
  | [], _, _ => Int.le_refl _
  | x :: r, h, e => by
    have h1 := sumL_mono (P := P) (Q := Q) (l := r) (fun y m => h y (List.mem_cons_of_mem _ m)) e
    have h2 := h x (List.mem_cons_self ..)
    rw [sumL, sumL]
    by_cases p : P x.1 = true
    · rw [if_pos p, if_pos (e _ p)]; omega
    · rw [if_neg p]; split <;> omega
theorem sumL_split {P Q R : ByteArray → Bool} (e : ∀ s, (P s = true ↔ (Q s = true ∨ R s = true)) ∧ ¬ (Q s = true ∧ R s = true)) : ∀ (l : List (ByteArray × Int)), sumL P l = sumL Q l + sumL R l
  | [] => rfl
  | x :: r => by
    have ih := sumL_split e r
    rw [sumL, sumL, sumL, ih]
    obtain ⟨h1, h2⟩ := e x.1
    by_cases q : Q x.1 = true <;> by_cases t : R x.1 = true
    · exact absurd ⟨q, t⟩ h2
    · rw [if_pos (h1.2 (Or.inl q)), if_pos q, if_neg t]; omega
    · rw [if_pos (h1.2 (Or.inr t)), if_neg q, if_pos t]; omega
    · rw [if_neg (fun z => (h1.1 z).elim q t), if_neg q, if_neg t]; omega
/-- The light ones. -/
def lightZ (S M : Int) (n : Nat) : List (ByteArray × Int) → Nat → Nat → Int
  | [] => fun _ _ => 0
  | x :: r => addZ S M n (lightZ S M n r) x.1 x.2
theorem lightZ_sum {S M : Int} {n : Nat} (hM : 1 ≤ M) (i j : Nat) : ∀ {l : List (ByteArray × Int)}, (∀ x, x ∈ l → 0 ≤ x.2) → lightZ S M n l i j = capF (sumL (fun k => decide (placeN S k n i = j)) l) M
  | [], _ => by unfold lightZ sumL capF; split <;> omega
  | x :: r, h => by
    have ih := lightZ_sum (S := S) (n := n) hM i j (l := r) fun y m => h y (List.mem_cons_of_mem _ m)
    have hx := h x (List.mem_cons_self ..)
    have nn := sumL_nn (P := fun k => decide (placeN S k n i = j)) (l := r) fun y m => h y (List.mem_cons_of_mem _ m)
    show (if j = placeN S x.1 n i then capF (lightZ S M n r i j + x.2) M else lightZ S M n r i j) = _
    rw [ih, sumL]
    generalize sumL (fun k => decide (placeN S k n i = j)) r = s at *
    by_cases e : placeN S x.1 n i = j
    · rw [if_pos e.symm, if_pos (by simpa using e)]
      unfold capF; (repeat' split) <;> omega
    · rw [if_neg (Ne.symm e), if_neg (by simpa using e), Int.zero_add]
theorem lightZ_ok {S M : Int} {R n : Nat} (h : OkP M R n (fun _ _ => 0)) : ∀ {l : List (ByteArray × Int)}, (∀ x, x ∈ l → 0 ≤ x.2) → OkP M R n (lightZ S M n l)
  | [], _ => h
  | x :: r, hl => (lightZ_ok h (l := r) fun y m => hl y (List.mem_cons_of_mem _ m)).add _ (hl x (List.mem_cons_self ..))
theorem light_own {S M : Int} {R n : Nat} {l : List (ByteArray × Int)} {s : ByteArray} (hM : 1 ≤ M) (hl : ∀ x, x ∈ l → 0 ≤ x.2) (hlt : getF M (lightZ S M n l) (placeN S s n) R < M) :
    sumL (fun k => decide (k = s)) l ≤ getF M (lightZ S M n l) (placeN S s n) R := by
  have h := getF_ge (M := M) (Z := lightZ S M n l) (p := placeN S s n) (x := capF (sumL (fun k => decide (k = s)) l) M) (capF_le _ _).1 R fun i hi => by
    rw [lightZ_sum hM i _ hl]
    have := sumL_mono (P := fun k => decide (k = s)) (Q := fun k => decide (placeN S k n i = placeN S s n i)) hl fun k e => by
      have : k = s := by simpa using e
      simp [this]
    unfold capF; (repeat' split) <;> omega
  have := capF_min (sumL (fun k => decide (k = s)) l) M
  omega
theorem light_all {S M : Int} {R n : Nat} {l : List (ByteArray × Int)} {s : ByteArray} {i : Nat} (hM : 1 ≤ M) (hl : ∀ x, x ∈ l → 0 ≤ x.2) (hi : i < R) :
    getF M (lightZ S M n l) (placeN S s n) R ≤ sumL (fun k => decide (placeN S k n i = placeN S s n i)) l := by
  have h := (getF_le M (lightZ S M n l) (placeN S s n) R).2 i hi
  rw [lightZ_sum hM i _ hl] at h
  have := capF_le (sumL (fun k => decide (placeN S k n i = placeN S s n i)) l) M
  omega

/-- A sketch that keys came to: its buckets, and what came to the light ones. -/
structure Fs where
  bs : List Bkt
  li : List (ByteArray × Int)
/-- With a key more. -/
def addS (room : Nat) (votes : Int) (st : Fs) (p : Nat) (s : ByteArray) : Option Fs :=
  match st.bs[p]? with
  | some b => match addB room votes b s with
    | some (b', none) => some ⟨st.bs.set p b', st.li⟩
    | some (b', some x) => some ⟨st.bs.set p b', x :: st.li⟩
    | none => none
  | none => none
theorem addS_some {room : Nat} {votes : Int} {st : Fs} {p : Nat} {s : ByteArray} {b b' : Bkt} {o : Option (ByteArray × Int)} (hb : st.bs[p]? = some b) (h : addB room votes b s = some (b', o)) : addS room votes st p s = some ⟨st.bs.set p b', match o with | none => st.li | some x => x :: st.li⟩ := by
  unfold addS
  rw [hb]
  simp only [h]
  cases o <;> rfl
/-- How often such keys came. -/
def cntK (q : Nat → ByteArray) (P : ByteArray → Bool) : Nat → Int
  | 0 => 0
  | t + 1 => cntK q P t + if P (q t) then 1 else 0
theorem cntK_nn (q : Nat → ByteArray) (P : ByteArray → Bool) : ∀ t, 0 ≤ cntK q P t
  | 0 => Int.le_refl _
  | t + 1 => by
    have := cntK_nn q P t
    rw [cntK]
    split <;> omega
theorem cntK_all (q : Nat → ByteArray) : ∀ t, cntK q (fun _ => true) t = t
  | 0 => rfl
  | t + 1 => by rw [cntK, cntK_all q t]; simp
theorem cntK_le (q : Nat → ByteArray) (P : ByteArray → Bool) : ∀ t, cntK q P t ≤ t
  | 0 => Int.le_refl _
  | t + 1 => by
    have := cntK_le q P t
    rw [cntK]
    split <;> omega
/-- What holds of keys that came. -/
structure Inv (N room : Nat) (pl : ByteArray → Nat) (q : Nat → ByteArray) (t : Nat) (st : Fs) : Prop where
  len : st.bs.length = N
  room' : ∀ (p : Nat) (b : Bkt), st.bs[p]? = some b → b.es.length ≤ room ∧ 0 ≤ b.ag ∧ b.ag ≤ t
  apart : ∀ (p : Nat) (b : Bkt), st.bs[p]? = some b → b.es.Pairwise fun x y => x.k ≠ y.k
  ents : ∀ (p : Nat) (b : Bkt), st.bs[p]? = some b → ∀ e, e ∈ b.es → 1 ≤ e.v ∧ pl e.k = p ∧ (e.f = false → sumL (fun k => decide (k = e.k)) st.li = 0)
  few : ∀ (p : Nat) (b : Bkt), st.bs[p]? = some b → b.es.length < room → ∀ s, pl s = p → sumL (fun k => decide (k = s)) st.li = 0
  light : ∀ x, x ∈ st.li → 0 ≤ x.2 ∧ x.2 ≤ t
  cons : ∀ P, cntK q P t = sumB P st.bs + sumL P st.li
theorem Inv.nn {N room : Nat} {pl : ByteArray → Nat} {q : Nat → ByteArray} {t : Nat} {st : Fs} (h : Inv N room pl q t st) : ∀ b, b ∈ st.bs → ∀ e, e ∈ b.es → 0 ≤ e.v := fun b m e me => by
  obtain ⟨p, hp⟩ := List.mem_iff_getElem?.1 m
  have := (h.ents p b hp e me).1
  omega
theorem Inv.vote {N room : Nat} {pl : ByteArray → Nat} {q : Nat → ByteArray} {t : Nat} {st : Fs} (h : Inv N room pl q t st) {p : Nat} {b : Bkt} (hb : st.bs[p]? = some b) {e : Ent} (he : e ∈ b.es) : e.v ≤ cntK q (fun k => decide (k = e.k)) t := by
  have mb := List.mem_of_getElem? hb
  have h1 := h.cons fun k => decide (k = e.k)
  have h2 := sumB_le (P := fun k => decide (k = e.k)) h.nn mb
  have h3 := sumE_le (P := fun k => decide (k = e.k)) (h.nn b mb) he (by simp)
  have h4 := sumL_nn (P := fun k => decide (k = e.k)) (l := st.li) fun x m => (h.light x m).1
  omega
/-- What goes in another bucket than a key's own. -/
theorem Inv.else' {N room : Nat} {pl : ByteArray → Nat} {q : Nat → ByteArray} {t : Nat} {st : Fs} (h : Inv N room pl q t st) {p : Nat} {b : Bkt} (hb : st.bs[p]? = some b) {s : ByteArray} (hs : pl s ≠ p) : sumE (fun k => decide (k = s)) b.es = 0 :=
  sumE_none fun e m => by
    have := (h.ents p b hb e m).2.1
    simp only [decide_eq_false_iff_not]
    rintro rfl
    exact hs this
/-- How often a key came: its votes, and what came to the light ones. -/
theorem Inv.own {N room : Nat} {pl : ByteArray → Nat} {q : Nat → ByteArray} {t : Nat} {st : Fs} (h : Inv N room pl q t st) {s : ByteArray} {b : Bkt} (hb : st.bs[pl s]? = some b) :
    cntK q (fun k => decide (k = s)) t = (match atE b.es s with | some i => (match b.es[i]? with | some e => e.v | none => 0) | none => 0) + sumL (fun k => decide (k = s)) st.li := by
  rw [h.cons, sumB_one hb fun j x hj hx => h.else' hx (Ne.symm hj)]
  congr 1
  cases g : atE b.es s with
  | none => exact sumE_none fun e m => by simpa using atE_none g e m
  | some i =>
    obtain ⟨e, h1, h2⟩ := atE_some g
    simp only [h1]
    exact sumE_one (h.apart _ b hb) h1 h2
theorem inv_start {N room : Nat} (pl : ByteArray → Nat) (q : Nat → ByteArray) : Inv N room pl q 0 ⟨List.replicate N ⟨[], 0⟩, []⟩ := by
  have g : ∀ (p : Nat) (b : Bkt), (List.replicate N (⟨[], 0⟩ : Bkt))[p]? = some b → b = ⟨[], 0⟩ := fun p b h => by
    rw [List.getElem?_replicate] at h
    split at h
    · cases h; rfl
    · cases h
  refine ⟨by simp, fun p b h => (by rw [g p b h]; simp), fun p b h => (by rw [g p b h]; exact List.Pairwise.nil), fun p b h e m => (by rw [g p b h] at m; cases m), fun p b h _ s _ => rfl, fun x m => (by cases m), fun P => ?_⟩
  show (0 : Int) = sumB P (List.replicate N ⟨[], 0⟩) + 0
  rw [sumB_none fun b m => by rw [List.eq_of_mem_replicate m]; rfl]
  rfl
theorem pairwise_keys {l : List Ent} : (l.Pairwise fun x y => x.k ≠ y.k) ↔ (l.map Ent.k).Pairwise (· ≠ ·) := by rw [List.pairwise_map]
theorem apart_at {l : List Ent} (h : l.Pairwise fun x y => x.k ≠ y.k) {i j : Nat} {x y : Ent} (hx : l[i]? = some x) (hy : l[j]? = some y) (ne : i ≠ j) : x.k ≠ y.k := by
  obtain ⟨h1, e1⟩ := List.getElem?_eq_some_iff.1 hx
  obtain ⟨h2, e2⟩ := List.getElem?_eq_some_iff.1 hy
  rw [List.pairwise_iff_getElem] at h
  rcases Nat.lt_or_gt_of_ne ne with g | g
  · have := h i j h1 h2 g
    rwa [e1, e2] at this
  · have := h j i h2 h1 g
    rw [e1, e2] at this
    exact this.symm
theorem apart_iff {l : List Ent} : (l.Pairwise fun x y => x.k ≠ y.k) ↔ ∀ (i j : Nat) (x y : Ent), i ≠ j → l[i]? = some x → l[j]? = some y → x.k ≠ y.k := by
  constructor
  · intro h i j x y ne hx hy
    exact apart_at h hx hy ne
  · intro h
    rw [List.pairwise_iff_getElem]
    intro i j hi hj ij
    exact h i j _ _ (by omega) (List.getElem?_eq_getElem hi) (List.getElem?_eq_getElem hj)
theorem set_at {α : Type} {l : List α} {i j : Nat} {x y : α} (h : (l.set i x)[j]? = some y) : (j = i ∧ y = x) ∨ (j ≠ i ∧ l[j]? = some y) := by
  rw [List.getElem?_set] at h
  by_cases e : i = j
  · rw [if_pos e] at h
    split at h
    · cases h; exact Or.inl ⟨e.symm, rfl⟩
    · cases h
  · rw [if_neg e] at h
    exact Or.inr ⟨Ne.symm e, h⟩
theorem apart_set {l : List Ent} (h : l.Pairwise fun x y => x.k ≠ y.k) {i : Nat} {x : Ent} (n : ∀ (j : Nat) (y : Ent), j ≠ i → l[j]? = some y → y.k ≠ x.k) : (l.set i x).Pairwise fun x y => x.k ≠ y.k := by
  rw [apart_iff]
  intro a b u v ne hu hv
  rcases set_at hu with ⟨rfl, rfl⟩ | ⟨h1, h2⟩
  · rcases set_at hv with ⟨rfl, rfl⟩ | ⟨h3, h4⟩
    · exact absurd rfl ne
    · exact (n b v h3 h4).symm
  · rcases set_at hv with ⟨rfl, rfl⟩ | ⟨h3, h4⟩
    · exact n a u h1 h2
    · exact apart_at h h2 h4 ne
set_option maxHeartbeats 1000000 in
theorem inv_step {N room : Nat} {votes : Int} {pl : ByteArray → Nat} {q : Nat → ByteArray} {t : Nat} {st : Fs} (h : Inv N room pl q t st) (r1 : 1 ≤ room) (hp : pl (q t) < N) (ht : t < 1000000) :
    ∃ st', addS room votes st (pl (q t)) (q t) = some st' ∧ Inv N room pl q (t + 1) st' := by
  obtain ⟨s, hs⟩ : ∃ s, s = q t := ⟨_, rfl⟩
  obtain ⟨p, hpp⟩ : ∃ p, p = pl s := ⟨_, rfl⟩
  rw [← hs] at hp ⊢
  rw [← hpp] at hp ⊢
  have hb0 : p < st.bs.length := by rw [h.len]; exact hp
  obtain ⟨b, hb⟩ : ∃ b, st.bs[p]? = some b := ⟨_, List.getElem?_eq_getElem hb0⟩
  have hr := h.room' p b hb
  have ha := h.apart p b hb
  have he := h.ents p b hb
  have cn : ∀ P, cntK q P (t + 1) = cntK q P t + if P s then 1 else 0 := fun P => by rw [cntK, hs]
  -- what stands for all other buckets, and for this one
  have put : ∀ (b' : Bkt) (li' : List (ByteArray × Int)), (b'.es.length ≤ room ∧ 0 ≤ b'.ag ∧ b'.ag ≤ t + 1) → (b'.es.Pairwise fun x y => x.k ≠ y.k) → (∀ e, e ∈ b'.es → 1 ≤ e.v ∧ pl e.k = p ∧ (e.f = false → sumL (fun k => decide (k = e.k)) li' = 0)) →
      (b'.es.length < room → ∀ s, pl s = p → sumL (fun k => decide (k = s)) li' = 0) → (∀ x, x ∈ li' → 0 ≤ x.2 ∧ x.2 ≤ t + 1) → (∀ s', pl s' ≠ p → sumL (fun k => decide (k = s')) li' = sumL (fun k => decide (k = s')) st.li) →
      (∀ P, sumE P b'.es + sumL P li' = sumE P b.es + sumL P st.li + if P s then 1 else 0) → Inv N room pl q (t + 1) ⟨st.bs.set p b', li'⟩ := by
    intro b' li' h1 h2 h3 h4 h5 h6 h7
    refine ⟨by simp [h.len], fun p' c hc => ?_, fun p' c hc => ?_, fun p' c hc e m => ?_, fun p' c hc l s' hs' => ?_, fun x m => ⟨(h5 x m).1, by have := (h5 x m).2; omega⟩, fun P => ?_⟩
    · rcases set_at hc with ⟨rfl, rfl⟩ | ⟨n1, n2⟩
      · exact ⟨h1.1, h1.2.1, by have := h1.2.2; omega⟩
      · have := h.room' p' c n2
        exact ⟨this.1, this.2.1, by omega⟩
    · rcases set_at hc with ⟨rfl, rfl⟩ | ⟨n1, n2⟩
      · exact h2
      · exact h.apart p' c n2
    · rcases set_at hc with ⟨rfl, rfl⟩ | ⟨n1, n2⟩
      · exact h3 e m
      · have := h.ents p' c n2 e m
        exact ⟨this.1, this.2.1, fun f => by rw [h6 e.k (by rw [this.2.1]; exact n1)]; exact this.2.2 f⟩
    · rcases set_at hc with ⟨rfl, rfl⟩ | ⟨n1, n2⟩
      · exact h4 l s' hs'
      · rw [h6 s' (by rw [hs']; exact n1)]
        exact h.few p' c n2 l s' hs'
    · show cntK q P (t + 1) = sumB P (st.bs.set p b') + sumL P li'
      rw [cn, h.cons, sumB_set P _ _ _ _ hb]
      have := h7 P
      omega
  cases g : atE b.es s with
  | some i =>
    obtain ⟨e, e1, e2⟩ := atE_some g
    have me := List.mem_of_getElem? e1
    have ev := h.vote hb me
    have := cntK_le q (fun k => decide (k = e.k)) t
    have hv := he e me
    refine ⟨_, addS_some hb ((addB_at g e1).trans (if_neg (by omega))), put _ _ ⟨by simpa using hr.1, hr.2.1, by have := hr.2.2; show b.ag ≤ _; omega⟩ ?_ ?_ ?_ (fun x m => ⟨(h.light x m).1, by have := (h.light x m).2; omega⟩) (fun s' _ => rfl) (fun P => ?_)⟩
    · exact apart_set ha fun j y hj hy => show y.k ≠ e.k from apart_at ha hy e1 hj
    · intro x mx
      obtain ⟨j, hj⟩ := List.mem_iff_getElem?.1 mx
      rcases set_at hj with ⟨_, rfl⟩ | ⟨_, h2⟩
      · exact ⟨by show 1 ≤ e.v + 1; omega, hv.2.1, hv.2.2⟩
      · exact he x (List.mem_of_getElem? h2)
    · intro l s' hs'
      exact h.few p b hb (by simpa using l) s' hs'
    · show sumE P (b.es.set i ⟨e.k, e.v + 1, e.f⟩) + _ = _
      rw [sumE_set P _ _ _ _ e1]
      simp only [e2]
      split <;> omega
  | none =>
    have gn := atE_none g
    by_cases r : b.es.length < room
    · refine ⟨_, addS_some hb (addB_room g r), put _ _ ⟨by simp; omega, hr.2.1, by have := hr.2.2; show b.ag ≤ _; omega⟩ ?_ ?_ ?_ (fun x m => ⟨(h.light x m).1, by have := (h.light x m).2; omega⟩) (fun s' _ => rfl) (fun P => ?_)⟩
      · rw [List.pairwise_append]
        refine ⟨ha, List.pairwise_singleton _ _, fun x mx y my => ?_⟩
        rw [List.mem_singleton.1 my]
        exact gn x mx
      · intro x mx
        rcases List.mem_append.1 mx with mx | mx
        · exact he x mx
        · rw [List.mem_singleton.1 mx]
          exact ⟨Int.le_refl _, hpp.symm, fun _ => h.few p b hb r s hpp.symm⟩
      · intro l s' hs'
        exact h.few p b hb r s' hs'
      · show sumE P (b.es ++ [⟨s, 1, false⟩]) + _ = _
        rw [sumE_append]
        simp only [sumE]
        omega
    · have e0 : 0 < b.es.length := by omega
      obtain ⟨e, e1⟩ : ∃ e, b.es[lowAt b.es]? = some e := ⟨_, List.getElem?_eq_getElem (lowAt_lt e0)⟩
      have me := List.mem_of_getElem? e1
      have hv := he e me
      have ev := h.vote hb me
      have cle := cntK_le q (fun k => decide (k = e.k)) t
      have ne0 : e.k ≠ s := gn e me
      by_cases a : b.ag + 1 ≥ votes * e.v
      · refine ⟨_, addS_some hb ((addB_low g r (by have := hr.2.2; omega) e1).trans (if_pos a)), put _ _ ⟨by simpa using hr.1, Int.le_refl _, by show (0 : Int) ≤ _; omega⟩ ?_ ?_ ?_ ?_ ?_ ?_⟩
        · exact apart_set ha fun j y hj hy => gn y (List.mem_of_getElem? hy)
        · intro x mx
          obtain ⟨j, hj⟩ := List.mem_iff_getElem?.1 mx
          rcases set_at hj with ⟨_, rfl⟩ | ⟨h1, h2⟩
          · exact ⟨Int.le_refl _, hpp.symm, fun f => by cases f⟩
          · have hx := he x (List.mem_of_getElem? h2)
            refine ⟨hx.1, hx.2.1, fun f => ?_⟩
            have nk := apart_at ha h2 e1 h1
            show (if decide (e.k = x.k) = true then e.v else 0) + sumL _ st.li = 0
            rw [if_neg (by simpa using Ne.symm nk), hx.2.2 f]
            rfl
        · intro l
          exact absurd (by simpa using l) r
        · intro x mx
          rcases List.mem_cons.1 mx with rfl | mx
          · exact ⟨by show 0 ≤ e.v; omega, by show e.v ≤ _; omega⟩
          · have := h.light x mx
            exact ⟨this.1, by omega⟩
        · intro s' hs'
          show (if decide (e.k = s') = true then e.v else 0) + sumL _ st.li = _
          rw [if_neg (by simpa using fun z : e.k = s' => hs' (by rw [← z]; exact hv.2.1))]
          omega
        · intro P
          show sumE P (b.es.set (lowAt b.es) ⟨s, 1, true⟩) + ((if P e.k = true then e.v else 0) + sumL P st.li) = _
          rw [sumE_set P _ _ _ _ e1]
          simp only
          omega
      · refine ⟨_, addS_some hb ((addB_low g r (by have := hr.2.2; omega) e1).trans (if_neg a)), put _ _ ⟨hr.1, by show 0 ≤ b.ag + 1; omega, by have := hr.2.2; show b.ag + 1 ≤ _; omega⟩ ha ?_ ?_ ?_ ?_ ?_⟩
        · intro x mx
          have hx := he x mx
          refine ⟨hx.1, hx.2.1, fun f => ?_⟩
          show (if decide (s = x.k) = true then (1 : Int) else 0) + sumL _ st.li = 0
          rw [if_neg (by simpa using Ne.symm (gn x mx)), hx.2.2 f]
          rfl
        · intro l
          exact absurd l r
        · intro x mx
          rcases List.mem_cons.1 mx with rfl | mx
          · exact ⟨by show (0 : Int) ≤ 1; omega, by show (1 : Int) ≤ _; omega⟩
          · have := h.light x mx
            exact ⟨this.1, by omega⟩
        · intro s' hs'
          show (if decide (s = s') = true then (1 : Int) else 0) + sumL _ st.li = _
          rw [if_neg (by simpa using fun z : s = s' => hs' (by rw [← z]; exact hpp.symm))]
          omega
        · intro P
          show sumE P b.es + ((if P s = true then (1 : Int) else 0) + sumL P st.li) = _
          omega
end Go.Proofs.Ytihealembikkiaa.El
