
/-
  The heap of the document (layer 14): lists that it makes; same and few of the laws.
-/
import Derived.Test.YtihealembikkiaaHevRef
import Derived.Test.YtihealembikkiaaRegKit
import Derived.Deep.AppendLies
namespace Go.Proofs.Ytihealembikkiaa.L14
open Go.RowKit Hv Go.Deep
set_option linter.unusedVariables false
set_option maxRecDepth 20000

theorem take_more {l : List Itm} {k : Nat} {y : Itm} (h : l[k]? = some y) : l.take (k + 1) = l.take k ++ [y] := by rw [List.take_add_one, h]; rfl
theorem without_more_in {l : List Itm} {k : Nat} {y : Itm} {key : ByteArray} (h : l[k]? = some y) (n : y.k ≠ key) : withoutL (l.take (k + 1)) key = withoutL (l.take k) key ++ [y] := by
  unfold withoutL
  rw [take_more h, List.filter_append]
  congr 1
  rw [List.filter_cons_of_pos (by simpa using n)]
  rfl
theorem without_more_out {l : List Itm} {k : Nat} {y : Itm} {key : ByteArray} (h : l[k]? = some y) (n : y.k = key) : withoutL (l.take (k + 1)) key = withoutL (l.take k) key := by
  unfold withoutL
  rw [take_more h, List.filter_append]
  rw [List.filter_cons_of_neg (by simpa using n)]
  simp
/-- What Put has made of the first ones. -/
def putT (l : List Itm) (x : Itm) (P : Bool) (k : Nat) : List Itm := if P = true then putL (l.take k) x else l.take k
def hadP (l : List Itm) (x : Itm) (k : Nat) : Bool := (l.take k).any fun y => aheadB x y
theorem putL_had : ∀ (l : List Itm) (x y : Itm), l.any (fun z => aheadB x z) = true → putL (l ++ [y]) x = putL l x ++ [y]
  | [], x, y, h => by simp at h
  | z :: r, x, y, h => by
    rw [List.cons_append, putL, putL]
    by_cases e : aheadB x z = true
    · rw [if_pos e, if_pos e]; rfl
    · rw [if_neg e, if_neg e, putL_had r x y (by simpa [e] using h)]; rfl
theorem putL_hadn : ∀ (l : List Itm) (x : Itm), l.any (fun z => aheadB x z) = false → putL l x = l ++ [x]
  | [], x, h => rfl
  | z :: r, x, h => by
    simp only [List.any_cons, Bool.or_eq_false_iff] at h
    rw [putL, if_neg (by rw [h.1]; decide), putL_hadn r x h.2]
    rfl
theorem putL_first : ∀ (l : List Itm) (x y : Itm), l.any (fun z => aheadB x z) = false → aheadB x y = true → putL (l ++ [y]) x = l ++ [x] ++ [y]
  | [], x, y, h, e => by rw [List.nil_append, putL, if_pos e]; rfl
  | z :: r, x, y, h, e => by
    simp only [List.any_cons, Bool.or_eq_false_iff] at h
    rw [List.cons_append, putL, if_neg (by rw [h.1]; decide), putL_first r x y h.2 e]
    rfl
theorem hadP_more {l : List Itm} {x y : Itm} {k : Nat} (h : l[k]? = some y) : hadP l x (k + 1) = (hadP l x k || aheadB x y) := by
  unfold hadP
  rw [take_more h, List.any_append]
  simp
set_option maxHeartbeats 4000000 in
theorem hput_any (w : World) (v : Value) (l : List Itm) (s : ByteArray) (c : Int) (h : ItsL w v l) (hl : l.length ≤ 100000) :
    Calls Try.prog 43 #[v, .agg #[.string s, .int .i64 c]] w (ToldL w (putL l ⟨s, c⟩)) := by
  obtain ⟨A, cap, b, o, rfl, hc, h3, h4⟩ := h
  have H3 : Hid (0 < l.length → A = some ⟨b, o, none⟩) := h3
  have H4 : Hid (∀ i x, l[i]? = some x → w.cell? ⟨b, o + i * 2, none⟩ = some (.string x.k) ∧ w.cell? ⟨b, o + i * 2 + 1, none⟩ = some (.int .i64 x.c)) := h4
  obtain ⟨n, hn⟩ : ∃ n, n = l.length := ⟨_, rfl⟩
  have HN : Hid (n = l.length) := hn
  rw [← hn] at hc hl ⊢
  clear h3 h4 hn
  obtain ⟨it, hi, hz0, hz1, hz2⟩ := infoRI
  have HT : Hid (Try.prog.info? 96 = some it ∧ it.zero = some (.agg #[.string ⟨#[]⟩, .int .i64 0]) ∧ it.size = 2 ∧ it.bytes = 24) := ⟨hi, hz0, hz1, hz2⟩
  clear hi hz0 hz1 hz2
  have BX : Hid (Below w.heap.size w (w.alloc (.cells #[.string s, .int .i64 c] 96))) := bel_alloc _ _
  have KX : Hid (Blk (w.alloc (.cells #[.string s, .int .i64 c] 96)) w.heap.size 96 #[.string s, .int .i64 c]) := Blk.new _ _ _
  go_enter Try.func43, Try.ntmps43
  go_wp2_with fail
  generalize w.alloc (.cells #[.string s, .int .i64 c] 96) = u1 at BX KX ⊢
  go_loopg [5, 6, 7] n (fun gk u pp i wr => ∃ (k : Nat) (ao : Option Addr) (m cv : Nat) (L : List Itm) (P : Bool), (gk = n - k ∧ k ≤ n ∧ P = hadP l ⟨s, c⟩ k ∧ L = putT l ⟨s, c⟩ P k ∧ m = L.length ∧ m ≤ k + 1 ∧ GrowL 96 u1 wr (.slice ao m cv) L) ∧ u = .slice ao m cv ∧ pp = .bool P ∧ i = .int .i64 (k : Int))
  case atStart => exact ⟨0, none, 0, 0, [], false, ⟨rfl, by omega, rfl, rfl, rfl, by omega, growL_start _ _⟩, rfl, rfl, rfl⟩
  case round =>
    obtain ⟨k, ao, m, cv, L, P, ⟨hg, hk, hP, hL, hm, hmk, hI⟩, rfl, rfl, rfl⟩ := hrel
    have HK : Hid (gk = n - k ∧ P = hadP l ⟨s, c⟩ k ∧ L = putT l ⟨s, c⟩ P k ∧ m = L.length ∧ GrowL 96 u1 wr (.slice ao m cv) L) := ⟨hg, hP, hL, hm, hI⟩
    have KX1 : Hid (Blk wr w.heap.size 96 #[.string s, .int .i64 c]) := KX.out.since hI.since
    have x0 : wr.cell? ⟨w.heap.size, 0, none⟩ = some (.string s) := KX1.out.cell 0
    have x1 : wr.cell? ⟨w.heap.size, 1, none⟩ = some (.int .i64 c) := KX1.out.cell 1
    have hsz : u1.heap.size ≤ wr.heap.size := hI.since.size
    by_cases hz : k < n
    · obtain rfl := H3.out (by rw [← HN.out]; omega)
      obtain ⟨y, hy⟩ : ∃ y, l[k]? = some y := ⟨_, List.getElem?_eq_getElem (by rw [← HN.out]; exact hz)⟩
      obtain ⟨t, d⟩ := y
      have HY : Hid (l[k]? = some ⟨t, d⟩) := hy
      obtain ⟨c1, c2⟩ := H4.out k _ hy
      have c1 : wr.cell? ⟨b, o + k * 2, none⟩ = some (.string t) := keep_of_below (bel_trans BX.out hI.since) _ _ c1
      have c2 : wr.cell? ⟨b, o + k * 2 + 1, none⟩ = some (.int .i64 d) := keep_of_below (bel_trans BX.out hI.since) _ _ c2
      have C1 : Hid (wr.cell? ⟨b, o + k * 2, none⟩ = some (.string t)) := c1
      have C2 : Hid (wr.cell? ⟨b, o + k * 2 + 1, none⟩ = some (.int .i64 d)) := c2
      have bk : (k : Int) < (n : Int) := by omega
      have bk0 : (0 : Int) ≤ (k : Int) := by omega
      have OW : Hid (wr.ownsRow u1.heap.size 96 2 (.slice ao m cv) m (lCells L)) := by have e := hI.own; rw [← hm] at e; exact e
      cases P with
      | true =>
        clear hy hg hP hL hm hI
        go_wp2_with fail
        go_quiet (fail)
        have OD : Hid ((wr.drewN nq).ownsRow u1.heap.size 96 2 (.slice ao m cv) m (lCells L)) := OW.out
        have GD : Hid (GrowL 96 u1 (wr.drewN nq) (.slice ao m cv) L) := ⟨HK.out.2.2.2.2.own, below_drewN HK.out.2.2.2.2.since nq⟩
        have d1 : (wr.drewN nq).cell? ⟨b, o + k * 2, none⟩ = some (.string t) := C1.out
        have d2 : (wr.drewN nq).cell? ⟨b, o + k * 2 + 1, none⟩ = some (.int .i64 d) := C2.out
        have hsz2 : u1.heap.size ≤ (wr.drewN nq).heap.size := hsz
        clear x0 x1 c1 c2 hsz
        generalize wr.drewN nq = wd at OD GD d1 d2 hsz2 ⊢
        go_wp2_with (at_builtin; refine wpList_append_lies _ rfl _ _ _ rfl u1.heap.size 96 it (.agg #[.string ⟨#[]⟩, .int .i64 0]) 2 24 Try.underlying46 HT.out.1 HT.out.2.1 HT.out.2.2.1 HT.out.2.2.2 rfl (by omega) (.slice ao m cv) m (lCells L) (by rfl) (OD.out.alloc _) ⟨wd.heap.size, 0, none⟩ 1 1 [.string t, .int .i64 d] (by rfl) rfl (new_it wd 96 _ _) (it_cell _ _) (by omega) (by unfold maxLen; omega) (by omega) (by simp; omega) _ rfl ?_; intro g cap1 w1 hown1 hgrow hat hlt1)
        go_roundg (n - (k + 1))
        case measure => have := HK.out.1; omega
        case rel =>
          have hp : hadP l ⟨s, c⟩ k = true := HK.out.2.1.symm
          exact ⟨k + 1, _, _, _, L ++ [⟨t, d⟩], true, ⟨rfl, by omega, by rw [hadP_more HY.out, hp]; rfl, by rw [HK.out.2.2.1]; unfold putT; rw [if_pos rfl, if_pos rfl, take_more HY.out, putL_had _ _ _ hp], by rw [List.length_append, ← HK.out.2.2.2.1]; rfl, by omega, by have e := GD.out.step (x := ⟨t, d⟩) (by rw [← HK.out.2.2.2.1]; exact hown1) hgrow; rw [← HK.out.2.2.2.1] at e; exact e⟩, rfl, rfl, by go_num⟩
      | false =>
        have hp : hadP l ⟨s, c⟩ k = false := hP.symm
        have HP : Hid (hadP l ⟨s, c⟩ k = false) := hp
        have HT2 : Hid (L = l.take k) := by show L = _; rw [hL]; exact if_neg (by decide)
        obtain ⟨B, hB⟩ : ∃ B, B = aheadB ⟨s, c⟩ ⟨t, d⟩ := ⟨_, rfl⟩
        have HB : Hid (B = aheadB ⟨s, c⟩ ⟨t, d⟩) := hB
        have AH : Hid (∀ w1, Below wr.heap.size wr w1 → Calls Try.prog 68 #[.agg #[.string s, .int .i64 c], .agg #[.string t, .int .i64 d]] w1 fun e w' => e = .returned (.bool B) ∧ Below wr.heap.size wr w') := fun w1 b1 => (hahead_any w1 s c t d).mono fun e w' h => ⟨by rw [hB]; exact h.1, bel_trans b1 h.2⟩
        have mk : Hid (m = k) := by show m = k; rw [hm, HT2.out, List.length_take]; have := HN.out; omega
        clear hy hg hP hL hm hI hp hB
        go_wp2_with fail
        clear x0 x1 c1 c2
        refine letterQ ?_
        intro QQ hQQ
        have Z0 : Hid (Below wr.heap.size wr wr.drew) := (Below.refl _ _).drew
        refine wp_region_held_drew (S := fun w2 => Below wr.heap.size wr w2) (by kernel_rfl) Z0.out (fun hHeld => ?_)
        clear hHeld
        generalize wr.drew = q0 at Z0 ⊢
        refine wpAnyH_take (i := 0) (v := ?_) rfl (by kernel_rfl) (by kernel_rfl) (by kernel_rfl) (fun _ _ _ h => h) (Or.inl ⟨by rfl, ?_⟩) Z0.out ?_
        rotate_left
        · intro wq hSw; go_simp; first | done | with_reducible rfl
        simp only [List.getElem_toArray, List.getElem_cons_zero, Act.put, List.setIfInBounds_toArray, List.set_cons_zero, List.set_cons_succ]
        refine wpAnyH_take (i := 1) (v := ?_) rfl (by kernel_rfl) (by kernel_rfl) (by kernel_rfl) (fun _ _ _ h => h) (Or.inl ⟨by rfl, ?_⟩) Z0.out ?_
        rotate_left
        · intro wq hSw; go_simp; first | done | with_reducible rfl
        simp only [List.getElem_toArray, List.getElem_cons_zero, List.getElem_cons_succ, Act.put, List.setIfInBounds_toArray, List.set_cons_zero, List.set_cons_succ]
        refine wpAnyH_take (i := 2) (v := ?_) rfl (by kernel_rfl) (by kernel_rfl) (by kernel_rfl) (fun _ _ _ h => h) (Or.inl ⟨by rfl, ?_⟩) Z0.out ?_
        rotate_left
        · intro wq hSw; go_simp; first | done | with_reducible rfl
        simp only [List.getElem_toArray, List.getElem_cons_zero, List.getElem_cons_succ, Act.put, List.setIfInBounds_toArray, List.set_cons_zero, List.set_cons_succ]
        refine wpAnyH_take (i := 3) (v := ?_) rfl (by kernel_rfl) (by kernel_rfl) (by kernel_rfl) (fun _ _ _ h => h) (Or.inl ⟨by rfl, ?_⟩) Z0.out ?_
        rotate_left
        · intro wq hSw; have cl0 := (KX1.out.since hSw).cell 0; have cl1 := (KX1.out.since hSw).cell 1; go_simp; first | done | with_reducible rfl
        simp only [List.getElem_toArray, List.getElem_cons_zero, List.getElem_cons_succ, Act.put, List.setIfInBounds_toArray, List.set_cons_zero, List.set_cons_succ]
        refine wpAnyH_take (i := 4) (v := ?_) rfl (by kernel_rfl) (by kernel_rfl) (by kernel_rfl) (fun _ _ _ h => h) (Or.inl ⟨by rfl, ?_⟩) Z0.out ?_
        rotate_left
        · intro wq hSw; go_simp; first | done | with_reducible rfl
        simp only [List.getElem_toArray, List.getElem_cons_zero, List.getElem_cons_succ, Act.put, List.setIfInBounds_toArray, List.set_cons_zero, List.set_cons_succ]
        refine wpAnyH_take (i := 5) (v := ?_) rfl (by kernel_rfl) (by kernel_rfl) (by kernel_rfl) (fun _ _ _ h => h) (Or.inl ⟨by rfl, ?_⟩) Z0.out ?_
        rotate_left
        · intro wq hSw; go_simp; first | done | with_reducible rfl
        simp only [List.getElem_toArray, List.getElem_cons_zero, List.getElem_cons_succ, Act.put, List.setIfInBounds_toArray, List.set_cons_zero, List.set_cons_succ]
        refine wpAnyH_take (i := 6) (v := ?_) rfl (by kernel_rfl) (by kernel_rfl) (by kernel_rfl) (fun _ _ _ h => h) (Or.inl ⟨by rfl, ?_⟩) Z0.out ?_
        rotate_left
        · intro wq hSw; go_simp; first | done | with_reducible rfl
        simp only [List.getElem_toArray, List.getElem_cons_zero, List.getElem_cons_succ, Act.put, List.setIfInBounds_toArray, List.set_cons_zero, List.set_cons_succ]
        refine wpAnyH_take (i := 7) (v := ?_) rfl (by kernel_rfl) (by kernel_rfl) (by kernel_rfl) (fun _ _ _ h => h) (Or.inl ⟨by rfl, ?_⟩) Z0.out ?_
        rotate_left
        · intro wq hSw; have cl0 := keep_of_below hSw _ _ C1.out; have cl1 := keep_of_below hSw _ _ C2.out; go_simp; first | done | with_reducible rfl
        simp only [List.getElem_toArray, List.getElem_cons_zero, List.getElem_cons_succ, Act.put, List.setIfInBounds_toArray, List.set_cons_zero, List.set_cons_succ]
        refine wpAnyH_ready (rs := [8]) (by kernel_rfl) (by simp) ?_
        refine AllReadyH.cons rfl (fun K0 hK0 => ?_) ?_
        rotate_left
        · exact AllReadyH.nil
        refine step_func 68 #[.agg #[.string s, .int .i64 c], .agg #[.string t, .int .i64 d]] (by rfl) rfl (by simp [Act.eval]) (fun _ _ => by kernel_rfl) ?_
        refine (AH.out _ Z0.out).mono ?_
        rintro e q1 ⟨rfl, cc⟩
        have Z1 : Hid (Below wr.heap.size wr q1) := cc
        clear cc
        refine ⟨_, rfl, ?_⟩
        refine hK0.out _ _ Z1.out (fun hHeld => ?_)
        clear hK0 K0 hHeld
        refine wpAnyH_take (i := 9) (v := ?_) rfl (by kernel_rfl) (by kernel_rfl) (by kernel_rfl) (fun _ _ _ h => h) (Or.inl ⟨by rfl, ?_⟩) Z1.out ?_
        rotate_left
        · intro wq hSw; go_simp; first | done | with_reducible rfl
        simp only [List.getElem_toArray, List.getElem_cons_zero, List.getElem_cons_succ, Act.put, List.setIfInBounds_toArray, List.set_cons_zero, List.set_cons_succ]
        refine wpAnyH_done (by kernel_rfl) ?_ _
        refine NoPanic.normal ?_
        refine hQQ.out _ _ ?_
        clear hQQ
        have OD : Hid (q1.ownsRow u1.heap.size 96 2 (.slice ao m cv) m (lCells L)) := by have e := (HK.out.2.2.2.2.keep Z1.out).own; rw [← HK.out.2.2.2.1] at e; exact e
        have GD : Hid (GrowL 96 u1 q1 (.slice ao m cv) L) := HK.out.2.2.2.2.keep Z1.out
        have d1 : q1.cell? ⟨b, o + k * 2, none⟩ = some (.string t) := keep_of_below Z1.out _ _ C1.out
        have d2 : q1.cell? ⟨b, o + k * 2 + 1, none⟩ = some (.int .i64 d) := keep_of_below Z1.out _ _ C2.out
        have KQ : Hid (Blk q1 w.heap.size 96 #[.string s, .int .i64 c]) := KX1.out.since Z1.out
        have D1 : Hid (q1.cell? ⟨b, o + k * 2, none⟩ = some (.string t) ∧ q1.cell? ⟨b, o + k * 2 + 1, none⟩ = some (.int .i64 d)) := ⟨d1, d2⟩
        have x0 : q1.cell? ⟨w.heap.size, 0, none⟩ = some (.string s) := KQ.out.cell 0
        have x1 : q1.cell? ⟨w.heap.size, 1, none⟩ = some (.int .i64 c) := KQ.out.cell 1
        have hsz2 : u1.heap.size ≤ q1.heap.size := by have := Z1.out.size; omega
        clear Z0 Z1 AH C1 C2 KX1 hsz OW
        cases B with
        | true =>
          go_wp2_with (first | (at_builtin; refine wpList_append_lies _ rfl _ _ _ rfl u1.heap.size 96 it (.agg #[.string ⟨#[]⟩, .int .i64 0]) 2 24 Try.underlying46 HT.out.1 HT.out.2.1 HT.out.2.2.1 HT.out.2.2.2 rfl (by omega) (.slice ao m cv) m (lCells L) (by rfl) (OD.out.alloc _) ⟨q1.heap.size, 0, none⟩ 1 1 [.string s, .int .i64 c] (by rfl) rfl (new_it q1 96 _ _) (it_cell _ _) (by omega) (by unfold maxLen; omega) (by omega) (by simp; omega) _ rfl ?_; intro g cap1 w1 hown1 hgrow hat hlt1; have GX : Hid (GrowL 96 u1 w1 (.slice (some ⟨g, 0, none⟩) (m + 1) cap1) (L ++ [⟨s, c⟩])) := (by have e := GD.out.step (x := ⟨s, c⟩) (by rw [← HK.out.2.2.2.1]; exact hown1) hgrow; rw [← HK.out.2.2.2.1] at e; exact e); have OX : Hid (w1.ownsRow u1.heap.size 96 2 (.slice (some ⟨g, 0, none⟩) (m + 1) cap1) (m + 1) (lCells (L ++ [⟨s, c⟩]))) := (by have e := GX.out.own; rw [List.length_append, ← HK.out.2.2.2.1] at e; exact e); have BB : Hid (Below u1.heap.size u1 w1) := GX.out.since; clear d1 d2 x0 x1; have d1 : w1.cell? ⟨b, o + k * 2, none⟩ = some (.string t) := keep_of_below (bel_trans BX.out BB.out) _ _ (H4.out k _ HY.out).1; have d2 : w1.cell? ⟨b, o + k * 2 + 1, none⟩ = some (.int .i64 d) := keep_of_below (bel_trans BX.out BB.out) _ _ (H4.out k _ HY.out).2; have hsz3 : u1.heap.size ≤ w1.heap.size := BB.out.size; clear hown1 hgrow hat hlt1; obtain ⟨m2, hm2⟩ : ∃ m2, m2 = m + 1 := ⟨_, rfl⟩; rw [← hm2] at GX OX ⊢; have HM2 : Hid (m + 1 = m2) := hm2.symm; have m2b : m2 ≤ k + 2 := (by omega); clear hm2) | (at_builtin; refine wpList_append_lies _ rfl _ _ _ rfl u1.heap.size 96 it (.agg #[.string ⟨#[]⟩, .int .i64 0]) 2 24 Try.underlying46 HT.out.1 HT.out.2.1 HT.out.2.2.1 HT.out.2.2.2 rfl (by omega) (.slice (some ⟨g, 0, none⟩) m2 cap1) m2 (lCells (L ++ [⟨s, c⟩])) (by rfl) (OX.out.alloc _) ⟨w1.heap.size, 0, none⟩ 1 1 [.string t, .int .i64 d] (by rfl) rfl (new_it w1 96 _ _) (it_cell _ _) (by omega) (by unfold maxLen; omega) (by omega) (by simp; omega) _ rfl ?_; intro g2 cap2 w2 hown1 hgrow hat hlt1))
          go_roundg (n - (k + 1))
          case measure => have := HK.out.1; omega
          case rel => exact ⟨k + 1, _, _, _, L ++ [⟨s, c⟩] ++ [⟨t, d⟩], true, ⟨rfl, by omega, by rw [hadP_more HY.out, HP.out, ← HB.out]; rfl, by unfold putT; rw [if_pos rfl, take_more HY.out, putL_first _ _ _ HP.out HB.out.symm, HT2.out], by rw [List.length_append, List.length_append, ← HK.out.2.2.2.1, ← HM2.out]; rfl, by have e1 : m = k := mk.out; have e2 : m + 1 = m2 := HM2.out; omega, by have e := GX.out.step (x := ⟨t, d⟩) (g := g2) (cap := cap2) (by rw [List.length_append, ← HK.out.2.2.2.1]; show World.ownsRow _ _ _ _ (.slice _ (m + 1 + 1) _) (m + 1 + 1) _; rw [HM2.out]; exact hown1) hgrow; rw [List.length_append, ← HK.out.2.2.2.1] at e; rw [← HM2.out]; exact e⟩, rfl, rfl, by go_num⟩
        | false =>
          go_wp2_with (at_builtin; refine wpList_append_lies _ rfl _ _ _ rfl u1.heap.size 96 it (.agg #[.string ⟨#[]⟩, .int .i64 0]) 2 24 Try.underlying46 HT.out.1 HT.out.2.1 HT.out.2.2.1 HT.out.2.2.2 rfl (by omega) (.slice ao m cv) m (lCells L) (by rfl) (OD.out.alloc _) ⟨q1.heap.size, 0, none⟩ 1 1 [.string t, .int .i64 d] (by rfl) rfl (new_it q1 96 _ _) (it_cell _ _) (by omega) (by unfold maxLen; omega) (by omega) (by simp; omega) _ rfl ?_; intro g cap1 w1 hown1 hgrow hat hlt1)
          go_roundg (n - (k + 1))
          case measure => have := HK.out.1; omega
          case rel => exact ⟨k + 1, _, _, _, L ++ [⟨t, d⟩], false, ⟨rfl, by omega, by rw [hadP_more HY.out, HP.out, ← HB.out]; rfl, by unfold putT; rw [if_neg (by decide), take_more HY.out, HT2.out], by rw [List.length_append, ← HK.out.2.2.2.1]; rfl, by omega, by have e := GD.out.step (x := ⟨t, d⟩) (by rw [← HK.out.2.2.2.1]; exact hown1) hgrow; rw [← HK.out.2.2.2.1] at e; exact e⟩, rfl, rfl, by go_num⟩
    · have bk : ¬ (k : Int) < (n : Int) := by omega
      have kn : k = l.length := by have := HN.out; omega
      have tk : l.take k = l := by rw [kn, List.take_length]
      have OW : Hid (wr.ownsRow u1.heap.size 96 2 (.slice ao m cv) m (lCells L)) := by have e := hI.own; rw [← hm] at e; exact e
      cases P with
      | true =>
        have HE : Hid (L = putL l ⟨s, c⟩) := by show L = _; rw [hL]; unfold putT; rw [if_pos rfl, tk]
        clear hg hP hL hm hI kn tk
        go_wp2_with fail
        go_ret
        exact ⟨_, rfl, by rw [← HE.out]; exact HK.out.2.2.2.2.new BX.out.size, bel_trans BX.out HK.out.2.2.2.2.since⟩
      | false =>
        have HE : Hid (L ++ [⟨s, c⟩] = putL l ⟨s, c⟩) := by
          have e : L = l := by rw [hL]; unfold putT; rw [if_neg (by decide), tk]
          have hp : hadP l ⟨s, c⟩ k = false := hP.symm
          unfold hadP at hp
          rw [tk] at hp
          show _ = _
          rw [e, putL_hadn _ _ hp]
        clear hg hP hL hm hI kn tk
        go_wp2_with (at_builtin; refine wpList_append_lies _ rfl _ _ _ rfl u1.heap.size 96 it (.agg #[.string ⟨#[]⟩, .int .i64 0]) 2 24 Try.underlying46 HT.out.1 HT.out.2.1 HT.out.2.2.1 HT.out.2.2.2 rfl (by omega) (.slice ao m cv) m (lCells L) (by rfl) (OW.out.alloc _) ⟨wr.heap.size, 0, none⟩ 1 1 [.string s, .int .i64 c] (by rfl) rfl (new_it wr 96 _ _) (it_cell _ _) (by omega) (by unfold maxLen; omega) (by omega) (by simp; omega) _ rfl ?_; intro g cap1 w1 hown1 hgrow hat hlt1)
        go_wp2_with fail
        go_ret
        have e := HK.out.2.2.2.2.step (x := ⟨s, c⟩) (by rw [← HK.out.2.2.2.1]; exact hown1) hgrow
        rw [← HK.out.2.2.2.1] at e
        exact ⟨_, rfl, by rw [← HE.out]; exact e.new BX.out.size, bel_trans BX.out e.since⟩
end Go.Proofs.Ytihealembikkiaa.L14
