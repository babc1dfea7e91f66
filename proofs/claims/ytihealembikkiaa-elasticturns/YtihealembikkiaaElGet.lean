
/-
  What is told of keys that came to heavy and light ones (layer 15), and what holds of it: nothing of the program is in this text.
-/
import Derived.Test.YtihealembikkiaaElInv
namespace Go.Proofs.Ytihealembikkiaa.El
open Fm Bl Lt
set_option linter.unusedVariables false
set_option maxRecDepth 20000

/-- From how many to how many, whether that is exact, and whether the light ones were full. -/
def getE (R n : Nat) (S : Int) (b : Bkt) (Z : Nat → Nat → Int) (s : ByteArray) : Int × Int × Bool × Bool :=
  match atE b.es s with
  | some i => match b.es[i]? with
    | some e => if e.f = false then (e.v, e.v, true, false) else (e.v, e.v + getF 255 Z (placeN S s n) R, decide (getF 255 Z (placeN S s n) R = 0), decide (getF 255 Z (placeN S s n) R = 255))
    | none => (0, 0, false, false)
  | none => (0, getF 255 Z (placeN S s n) R, decide (getF 255 Z (placeN S s n) R = 0), decide (getF 255 Z (placeN S s n) R = 255))
theorem getE_at {R n : Nat} {S : Int} {b : Bkt} {Z : Nat → Nat → Int} {s : ByteArray} {i : Nat} {e : Ent} (h : atE b.es s = some i) (he : b.es[i]? = some e) : getE R n S b Z s = if e.f = false then (e.v, e.v, true, false) else (e.v, e.v + getF 255 Z (placeN S s n) R, decide (getF 255 Z (placeN S s n) R = 0), decide (getF 255 Z (placeN S s n) R = 255)) := by
  unfold getE
  rw [h]
  simp only [he]
theorem getE_no {R n : Nat} {S : Int} {b : Bkt} {Z : Nat → Nat → Int} {s : ByteArray} (h : atE b.es s = none) : getE R n S b Z s = (0, getF 255 Z (placeN S s n) R, decide (getF 255 Z (placeN S s n) R = 0), decide (getF 255 Z (placeN S s n) R = 255)) := by
  unfold getE
  rw [h]
/-- The numbers that are told lie about how often a key came. -/
theorem told_bounds {N room R n : Nat} {S : Int} {pl : ByteArray → Nat} {q : Nat → ByteArray} {t : Nat} {st : Fs} (h : Inv N room pl q t st) (ok : OkP 255 R n (lightZ S 255 n st.li)) {s : ByteArray} {b : Bkt} (hb : st.bs[pl s]? = some b) {lo hi : Int} {ex fu : Bool} (hg : getE R n S b (lightZ S 255 n st.li) s = (lo, hi, ex, fu)) :
    lo ≤ cntK q (fun k => decide (k = s)) t ∧ lo ≤ hi ∧ 0 ≤ lo ∧ (fu = false → cntK q (fun k => decide (k = s)) t ≤ hi) ∧ (ex = true → fu = false → lo = cntK q (fun k => decide (k = s)) t ∧ hi = cntK q (fun k => decide (k = s)) t) ∧
      ∀ i, i < R → fu = false → hi ≤ cntK q (fun k => decide (k = s)) t + cntK q (fun k => decide (k ≠ s ∧ placeN S k n i = placeN S s n i)) t := by
  have own := h.own hb
  have ln : ∀ x, x ∈ st.li → 0 ≤ x.2 := fun x m => (h.light x m).1
  have on := sumL_nn (P := fun k => decide (k = s)) ln
  obtain ⟨gx, hgx⟩ : ∃ gx, gx = getF 255 (lightZ S 255 n st.li) (placeN S s n) R := ⟨_, rfl⟩
  have g0 : 0 ≤ gx := by rw [hgx]; exact getF_nn ok (fun i hi => placeN_lt _ _ _ _ ok.2.2.2.2.1) (Nat.le_refl _)
  have g1 : gx ≤ 255 := by rw [hgx]; exact (getF_le _ _ _ _).1
  have lo1 : gx < 255 → sumL (fun k => decide (k = s)) st.li ≤ gx := fun hlt => by rw [hgx] at hlt ⊢; exact light_own (by omega) ln hlt
  have al : ∀ i, i < R → gx ≤ sumL (fun k => decide (k = s)) st.li + cntK q (fun k => decide (k ≠ s ∧ placeN S k n i = placeN S s n i)) t := fun i hi => by
    have h1 := light_all (S := S) (M := 255) (n := n) (s := s) (by omega) ln hi
    rw [← hgx] at h1
    rw [sumL_split (P := fun k => decide (placeN S k n i = placeN S s n i)) (Q := fun k => decide (k = s)) (R := fun k => decide (k ≠ s ∧ placeN S k n i = placeN S s n i)) (fun k => by
      simp only [decide_eq_true_eq]
      refine ⟨⟨fun e => ?_, fun e => ?_⟩, fun e => e.2.1 e.1⟩
      · by_cases z : k = s
        · exact Or.inl z
        · exact Or.inr ⟨z, e⟩
      · rcases e with rfl | e
        · rfl
        · exact e.2)] at h1
    have h2 := h.cons fun k => decide (k ≠ s ∧ placeN S k n i = placeN S s n i)
    have h3 := sumB_nn (P := fun k => decide (k ≠ s ∧ placeN S k n i = placeN S s n i)) h.nn
    omega
  have cs := fun P => cntK_nn q P t
  generalize hc : cntK q (fun k => decide (k = s)) t = c at *
  generalize hsl : sumL (fun k => decide (k = s)) st.li = sl at *
  cases g : atE b.es s with
  | none =>
    rw [getE_no g, ← hgx] at hg
    rw [g] at own
    simp only [Prod.mk.injEq] at hg
    obtain ⟨rfl, rfl, rfl, rfl⟩ := hg
    simp only at own
    refine ⟨by omega, g0, Int.le_refl _, fun f => ?_, fun e f => ?_, fun i hi f => ?_⟩
    · have := lo1 (by simp at f; omega)
      omega
    · have := lo1 (by simp at f; omega)
      simp at e
      omega
    · have := al i hi
      omega
  | some i =>
    obtain ⟨e, e1, e2⟩ := atE_some g
    have ev := (h.ents _ b hb e (List.mem_of_getElem? e1))
    rw [getE_at g e1, ← hgx] at hg
    rw [g] at own
    simp only [e1] at own
    by_cases ff : e.f = false
    · rw [if_pos ff] at hg
      simp only [Prod.mk.injEq] at hg
      obtain ⟨rfl, rfl, rfl, rfl⟩ := hg
      have z := ev.2.2 ff
      rw [e2, hsl] at z
      refine ⟨by omega, Int.le_refl _, by omega, fun f => by omega, fun _ _ => by omega, fun i hi f => ?_⟩
      have := cs fun k => decide (k ≠ s ∧ placeN S k n i = placeN S s n i)
      omega
    · rw [if_neg ff] at hg
      simp only [Prod.mk.injEq] at hg
      obtain ⟨rfl, rfl, rfl, rfl⟩ := hg
      refine ⟨by omega, by omega, by omega, fun f => ?_, fun x f => ?_, fun i hi f => ?_⟩
      · have := lo1 (by simp at f; omega)
        omega
      · have := lo1 (by simp at f; omega)
        simp at x
        omega
      · have := al i hi
        omega
/-- Keys that came for the first time, of one place. -/
def newK (q : Nat → ByteArray) (pl : ByteArray → Nat) (p : Nat) : Nat → Nat
  | 0 => 0
  | t + 1 => newK q pl p t + if cntK q (fun k => decide (k = q t)) t = 0 ∧ pl (q t) = p then 1 else 0
/-- Nothing is light yet: each bucket has an entry for each unlike key. -/
def AllApart (pl : ByteArray → Nat) (q : Nat → ByteArray) (t : Nat) (st : Fs) : Prop := st.li = [] ∧ ∀ (p : Nat) (b : Bkt), st.bs[p]? = some b → b.es.length = newK q pl p t ∧ ∀ e, e ∈ b.es → e.f = false
theorem newK_mono (q : Nat → ByteArray) (pl : ByteArray → Nat) (p : Nat) : ∀ {t u : Nat}, t ≤ u → newK q pl p t ≤ newK q pl p u := by
  intro t u h
  induction h with
  | refl => exact Nat.le_refl _
  | step h ih => rw [newK]; omega
theorem apart_start {N : Nat} (pl : ByteArray → Nat) (q : Nat → ByteArray) : AllApart pl q 0 ⟨List.replicate N ⟨[], 0⟩, []⟩ := ⟨rfl, fun p b h => by
  have : b = ⟨[], 0⟩ := by
    change (List.replicate N (⟨[], 0⟩ : Bkt))[p]? = some b at h
    rw [List.getElem?_replicate] at h
    split at h
    · cases h; rfl
    · cases h
  rw [this]
  exact ⟨rfl, fun e m => by cases m⟩⟩
theorem apart_step {N room : Nat} {votes : Int} {pl : ByteArray → Nat} {q : Nat → ByteArray} {t : Nat} {st st' : Fs} (h : Inv N room pl q t st) (k : AllApart pl q t st) (hs : addS room votes st (pl (q t)) (q t) = some st') (hr : newK q pl (pl (q t)) (t + 1) ≤ room) (hp : pl (q t) < N) : AllApart pl q (t + 1) st' := by
  obtain ⟨b, hb⟩ : ∃ b, st.bs[pl (q t)]? = some b := ⟨_, List.getElem?_eq_getElem (by rw [h.len]; exact hp)⟩
  have own := h.own hb
  have kb := k.2 _ b hb
  rw [k.1] at own
  cases g : atE b.es (q t) with
  | some i =>
    obtain ⟨e, e1, e2⟩ := atE_some g
    have ev := (h.ents _ b hb e (List.mem_of_getElem? e1)).1
    rw [g] at own
    simp only [e1, sumL] at own
    have ne : ¬ cntK q (fun k => decide (k = q t)) t = 0 := by omega
    have nk : ∀ p, newK q pl p (t + 1) = newK q pl p t := fun p => by rw [newK, if_neg fun z => ne z.1]; rfl
    have v := h.vote hb (List.mem_of_getElem? e1)
    by_cases full : e.v + 1 > 1099511627776
    · exfalso
      have : addB room votes b (q t) = none := (addB_at g e1).trans (if_pos full)
      unfold addS at hs
      rw [hb] at hs
      simp only [this] at hs
      cases hs
    · rw [addS_some hb ((addB_at g e1).trans (if_neg full))] at hs
      cases hs
      refine ⟨k.1, fun p c hc => ?_⟩
      rw [nk]
      rcases set_at hc with ⟨rfl, rfl⟩ | ⟨n1, n2⟩
      · refine ⟨by simpa using kb.1, fun x mx => ?_⟩
        obtain ⟨j, hj⟩ := List.mem_iff_getElem?.1 mx
        rcases set_at hj with ⟨_, rfl⟩ | ⟨_, h2⟩
        · exact kb.2 e (List.mem_of_getElem? e1)
        · exact kb.2 x (List.mem_of_getElem? h2)
      · exact k.2 p c n2
  | none =>
    rw [g] at own
    simp only [sumL] at own
    have nk : ∀ p, newK q pl p (t + 1) = newK q pl p t + if pl (q t) = p then 1 else 0 := fun p => by
      rw [newK]
      by_cases e : pl (q t) = p
      · rw [if_pos ⟨by omega, e⟩, if_pos e]
      · rw [if_neg (fun z => e z.2), if_neg e]
    rw [nk, if_pos rfl] at hr
    rw [addS_some hb (addB_room g (by rw [kb.1]; omega))] at hs
    cases hs
    refine ⟨k.1, fun p c hc => ?_⟩
    rw [nk]
    rcases set_at hc with ⟨rfl, rfl⟩ | ⟨n1, n2⟩
    · refine ⟨by rw [if_pos rfl, List.length_append, kb.1]; rfl, fun x mx => ?_⟩
      rcases List.mem_append.1 mx with m | m
      · exact kb.2 x m
      · rw [List.mem_singleton.1 m]
    · rw [if_neg (Ne.symm n1)]
      exact k.2 p c n2
/-- Then each key that came is told as it came. -/
theorem apart_told {N room R n : Nat} {S : Int} {pl : ByteArray → Nat} {q : Nat → ByteArray} {t : Nat} {st : Fs} (h : Inv N room pl q t st) (k : AllApart pl q t st) {s : ByteArray} {b : Bkt} (hb : st.bs[pl s]? = some b) (hc : 0 < cntK q (fun k => decide (k = s)) t) (Z : Nat → Nat → Int) :
    getE R n S b Z s = (cntK q (fun k => decide (k = s)) t, cntK q (fun k => decide (k = s)) t, true, false) := by
  have own := h.own hb
  rw [k.1] at own
  cases g : atE b.es s with
  | none =>
    rw [g] at own
    simp only [sumL] at own
    omega
  | some i =>
    obtain ⟨e, e1, e2⟩ := atE_some g
    rw [g] at own
    simp only [e1, sumL] at own
    have f := (k.2 _ b hb).2 e (List.mem_of_getElem? e1)
    rw [getE_at g e1, if_pos f, own]
    simp
end Go.Proofs.Ytihealembikkiaa.El
