
/-
  The heap of the document (layer 14): lists that it makes; same and few of the laws.
-/
import Derived.Test.YtejdfahokbheoaaHevRef
import Derived.Test.YtejdfahokbheoaaRegKit
import Derived.Deep.AppendLies
namespace Go.Proofs.Ytejdfahokbheoaa
open Go.RowKit Hv Go.Deep
set_option linter.unusedVariables false

theorem take_more {l : List Itm} {k : Nat} {y : Itm} (h : l[k]? = some y) : l.take (k + 1) = l.take k ++ [y] := by rw [List.take_add_one, h]; rfl
theorem without_more_in {l : List Itm} {k : Nat} {y : Itm} {key : ByteArray} (h : l[k]? = some y) (n : y.k ≠ key) : withoutL (l.take (k + 1)) key = withoutL (l.take k) key ++ [y] := by
  unfold withoutL
  rw [take_more h, List.filter_append]
  congr 1
  rw [List.filter_cons_of_pos (by simpa using n)]
  rfl
theorem without_more_out {l : List Itm} {k : Nat} {y : Itm} {key : ByteArray} (h : l[k]? = some y) (n : y.k = key) : withoutL (l.take (k + 1)) key = withoutL (l.take k) key := by
  unfold withoutL
  rw [take_more h, List.filter_append]
  rw [List.filter_cons_of_neg (by simpa using n)]
  simp
/-- What Put has made of the first ones. -/
def putT (l : List Itm) (x : Itm) (P : Bool) (k : Nat) : List Itm := if P = true then putL (l.take k) x else l.take k
def hadP (l : List Itm) (x : Itm) (k : Nat) : Bool := (l.take k).any fun y => aheadB x y
theorem putL_had : ∀ (l : List Itm) (x y : Itm), l.any (fun z => aheadB x z) = true → putL (l ++ [y]) x = putL l x ++ [y]
  | [], x, y, h => by simp at h
  | z :: r, x, y, h => by
    rw [List.cons_append, putL, putL]
    by_cases e : aheadB x z = true
    · rw [if_pos e, if_pos e]; rfl
    · rw [if_neg e, if_neg e, putL_had r x y (by simpa [e] using h)]; rfl
theorem putL_hadn : ∀ (l : List Itm) (x : Itm), l.any (fun z => aheadB x z) = false → putL l x = l ++ [x]
  | [], x, h => rfl
  | z :: r, x, h => by
    simp only [List.any_cons, Bool.or_eq_false_iff] at h
    rw [putL, if_neg (by rw [h.1]; decide), putL_hadn r x h.2]
    rfl
theorem putL_first : ∀ (l : List Itm) (x y : Itm), l.any (fun z => aheadB x z) = false → aheadB x y = true → putL (l ++ [y]) x = l ++ [x] ++ [y]
  | [], x, y, h, e => by rw [List.nil_append, putL, if_pos e]; rfl
  | z :: r, x, y, h, e => by
    simp only [List.any_cons, Bool.or_eq_false_iff] at h
    rw [List.cons_append, putL, if_neg (by rw [h.1]; decide), putL_first r x y h.2 e]
    rfl
theorem hadP_more {l : List Itm} {x y : Itm} {k : Nat} (h : l[k]? = some y) : hadP l x (k + 1) = (hadP l x k || aheadB x y) := by
  unfold hadP
  rw [take_more h, List.any_append]
  simp
set_option maxHeartbeats 1600000 in
theorem hwithout_any (w : World) (v : Value) (l : List Itm) (s : ByteArray) (h : ItsL w v l) (hl : l.length ≤ 100000) :
    Calls Try.prog 24 #[v, .string s] w (ToldL w (withoutL l s)) := by
  obtain ⟨A, cap, b, o, rfl, hc, h3, h4⟩ := h
  have H3 : Hid (0 < l.length → A = some ⟨b, o, none⟩) := h3
  have H4 : Hid (∀ i x, l[i]? = some x → w.cell? ⟨b, o + i * 2, none⟩ = some (.string x.k) ∧ w.cell? ⟨b, o + i * 2 + 1, none⟩ = some (.int .i64 x.c)) := h4
  obtain ⟨n, hn⟩ : ∃ n, n = l.length := ⟨_, rfl⟩
  have HN : Hid (n = l.length) := hn
  rw [← hn] at hc hl ⊢
  clear h3 h4 hn
  obtain ⟨it, hi, hz0, hz1, hz2⟩ := infoRI
  have HT : Hid (Try.prog.info? 39 = some it ∧ it.zero = some (.agg #[.string ⟨#[]⟩, .int .i64 0]) ∧ it.size = 2 ∧ it.bytes = 24) := ⟨hi, hz0, hz1, hz2⟩
  clear hi hz0 hz1 hz2
  go_enter Try.func24, Try.ntmps24
  go_wp2_with fail
  go_loopg [5, 6] n (fun gk u i wr => ∃ (k : Nat) (ao : Option Addr) (m cv : Nat) (L : List Itm), (gk = n - k ∧ k ≤ n ∧ L = withoutL (l.take k) s ∧ m = L.length ∧ m ≤ k ∧ GrowL 39 w wr (.slice ao m cv) L) ∧ u = .slice ao m cv ∧ i = .int .i64 (k : Int))
  case atStart => exact ⟨0, none, 0, 0, [], ⟨rfl, by omega, rfl, rfl, by omega, growL_start _ _⟩, rfl, rfl⟩
  case round =>
    obtain ⟨k, ao, m, cv, L, ⟨hg, hk, hL, hm, hmk, hI⟩, rfl, rfl⟩ := hrel
    have HK : Hid (gk = n - k ∧ L = withoutL (l.take k) s ∧ m = L.length ∧ GrowL 39 w wr (.slice ao m cv) L) := ⟨hg, hL, hm, hI⟩
    by_cases hz : k < n
    · obtain rfl := H3.out (by rw [← HN.out]; omega)
      obtain ⟨y, hy⟩ : ∃ y, l[k]? = some y := ⟨_, List.getElem?_eq_getElem (by rw [← HN.out]; exact hz)⟩
      obtain ⟨t, d⟩ := y
      have HY : Hid (l[k]? = some ⟨t, d⟩) := hy
      obtain ⟨c1, c2⟩ := H4.out k _ hy
      have c1 : wr.cell? ⟨b, o + k * 2, none⟩ = some (.string t) := keep_of_below hI.since _ _ c1
      have c2 : wr.cell? ⟨b, o + k * 2 + 1, none⟩ = some (.int .i64 d) := keep_of_below hI.since _ _ c2
      have bk : (k : Int) < (n : Int) := by omega
      have bk0 : (0 : Int) ≤ (k : Int) := by omega
      have hsz : w.heap.size ≤ wr.heap.size := hI.since.size
      clear hy hg hL hm hI
      by_cases e : t = s
      · have q : (t.toList == s.toList) = true := by rw [str_eq, decide_eq_true e]
        have q2 : (t.toList != s.toList) = false := by simp [bne, q]
        have HE : Hid (t = s) := e
        clear e
        go_wp2_with fail
        go_roundg (n - (k + 1))
        case measure => have := HK.out.1; omega
        case rel => exact ⟨k + 1, ao, m, cv, L, ⟨rfl, by omega, by rw [without_more_out HY.out HE.out]; exact HK.out.2.1, HK.out.2.2.1, by omega, HK.out.2.2.2⟩, rfl, by go_num⟩
      · have q : (t.toList == s.toList) = false := by rw [str_eq, decide_eq_false e]
        have q2 : (t.toList != s.toList) = true := by simp [bne, q]
        have HE : Hid (t ≠ s) := e
        clear e
        go_wp2_with (at_builtin; refine wpList_append_lies _ rfl _ _ _ rfl w.heap.size 39 it (.agg #[.string ⟨#[]⟩, .int .i64 0]) 2 24 Try.underlying28 HT.out.1 HT.out.2.1 HT.out.2.2.1 HT.out.2.2.2 rfl (by omega) (.slice ao m cv) m (lCells L) (by rfl) (by have e := HK.out.2.2.2.own; rw [← HK.out.2.2.1] at e; exact e.alloc _) ⟨wr.heap.size, 0, none⟩ 1 1 [.string t, .int .i64 d] (by rfl) rfl (new_it wr 39 _ _) (it_cell _ _) (by omega) (by unfold maxLen; omega) (by omega) (by simp; omega) _ rfl ?_; intro g cap1 w1 hown1 hgrow hat hlt1)
        go_roundg (n - (k + 1))
        case measure => have := HK.out.1; omega
        case rel => exact ⟨k + 1, _, _, _, L ++ [⟨t, d⟩], ⟨rfl, by omega, by rw [without_more_in HY.out HE.out, ← HK.out.2.1], by rw [List.length_append, ← HK.out.2.2.1]; rfl, by omega, by have e := HK.out.2.2.2.step (x := ⟨t, d⟩) (by rw [← HK.out.2.2.1]; exact hown1) hgrow; rw [← HK.out.2.2.1] at e; exact e⟩, rfl, by go_num⟩
    · have bk : ¬ (k : Int) < (n : Int) := by omega
      have kn : k = l.length := by have := HN.out; omega
      have HE : Hid (L = withoutL l s) := by have e := hL; rw [kn, List.take_length] at e; exact e
      clear hg hL hm hI kn
      go_wp2_with fail
      go_ret
      exact ⟨_, rfl, by rw [← HE.out]; exact HK.out.2.2.2.new (Nat.le_refl _), HK.out.2.2.2.since⟩
set_option maxHeartbeats 4000000 in
theorem hput_any (w : World) (v : Value) (l : List Itm) (s : ByteArray) (c : Int) (h : ItsL w v l) (hl : l.length ≤ 100000) :
    Calls Try.prog 25 #[v, .agg #[.string s, .int .i64 c]] w (ToldL w (putL l ⟨s, c⟩)) := by
  obtain ⟨A, cap, b, o, rfl, hc, h3, h4⟩ := h
  have H3 : Hid (0 < l.length → A = some ⟨b, o, none⟩) := h3
  have H4 : Hid (∀ i x, l[i]? = some x → w.cell? ⟨b, o + i * 2, none⟩ = some (.string x.k) ∧ w.cell? ⟨b, o + i * 2 + 1, none⟩ = some (.int .i64 x.c)) := h4
  obtain ⟨n, hn⟩ : ∃ n, n = l.length := ⟨_, rfl⟩
  have HN : Hid (n = l.length) := hn
  rw [← hn] at hc hl ⊢
  clear h3 h4 hn
  obtain ⟨it, hi, hz0, hz1, hz2⟩ := infoRI
  have HT : Hid (Try.prog.info? 39 = some it ∧ it.zero = some (.agg #[.string ⟨#[]⟩, .int .i64 0]) ∧ it.size = 2 ∧ it.bytes = 24) := ⟨hi, hz0, hz1, hz2⟩
  clear hi hz0 hz1 hz2
  have BX : Hid (Below w.heap.size w (w.alloc (.cells #[.string s, .int .i64 c] 39))) := bel_alloc _ _
  have KX : Hid (Blk (w.alloc (.cells #[.string s, .int .i64 c] 39)) w.heap.size 39 #[.string s, .int .i64 c]) := Blk.new _ _ _
  go_enter Try.func25, Try.ntmps25
  go_wp2_with fail
  generalize w.alloc (.cells #[.string s, .int .i64 c] 39) = u1 at BX KX ⊢
  go_loopg [5, 6, 7] n (fun gk u pp i wr => ∃ (k : Nat) (ao : Option Addr) (m cv : Nat) (L : List Itm) (P : Bool), (gk = n - k ∧ k ≤ n ∧ P = hadP l ⟨s, c⟩ k ∧ L = putT l ⟨s, c⟩ P k ∧ m = L.length ∧ m ≤ k + 1 ∧ GrowL 39 u1 wr (.slice ao m cv) L) ∧ u = .slice ao m cv ∧ pp = .bool P ∧ i = .int .i64 (k : Int))
  case atStart => exact ⟨0, none, 0, 0, [], false, ⟨rfl, by omega, rfl, rfl, rfl, by omega, growL_start _ _⟩, rfl, rfl, rfl⟩
  case round =>
    obtain ⟨k, ao, m, cv, L, P, ⟨hg, hk, hP, hL, hm, hmk, hI⟩, rfl, rfl, rfl⟩ := hrel
    have HK : Hid (gk = n - k ∧ P = hadP l ⟨s, c⟩ k ∧ L = putT l ⟨s, c⟩ P k ∧ m = L.length ∧ GrowL 39 u1 wr (.slice ao m cv) L) := ⟨hg, hP, hL, hm, hI⟩
    have KX1 : Hid (Blk wr w.heap.size 39 #[.string s, .int .i64 c]) := KX.out.since hI.since
    have x0 : wr.cell? ⟨w.heap.size, 0, none⟩ = some (.string s) := KX1.out.cell 0
    have x1 : wr.cell? ⟨w.heap.size, 1, none⟩ = some (.int .i64 c) := KX1.out.cell 1
    have hsz : u1.heap.size ≤ wr.heap.size := hI.since.size
    by_cases hz : k < n
    · obtain rfl := H3.out (by rw [← HN.out]; omega)
      obtain ⟨y, hy⟩ : ∃ y, l[k]? = some y := ⟨_, List.getElem?_eq_getElem (by rw [← HN.out]; exact hz)⟩
      obtain ⟨t, d⟩ := y
      have HY : Hid (l[k]? = some ⟨t, d⟩) := hy
      obtain ⟨c1, c2⟩ := H4.out k _ hy
      have c1 : wr.cell? ⟨b, o + k * 2, none⟩ = some (.string t) := keep_of_below (bel_trans BX.out hI.since) _ _ c1
      have c2 : wr.cell? ⟨b, o + k * 2 + 1, none⟩ = some (.int .i64 d) := keep_of_below (bel_trans BX.out hI.since) _ _ c2
      have C1 : Hid (wr.cell? ⟨b, o + k * 2, none⟩ = some (.string t)) := c1
      have C2 : Hid (wr.cell? ⟨b, o + k * 2 + 1, none⟩ = some (.int .i64 d)) := c2
      have bk : (k : Int) < (n : Int) := by omega
      have bk0 : (0 : Int) ≤ (k : Int) := by omega
      have OW : Hid (wr.ownsRow u1.heap.size 39 2 (.slice ao m cv) m (lCells L)) := by have e := hI.own; rw [← hm] at e; exact e
      cases P with
      | true =>
        clear hy hg hP hL hm hI
        go_wp2_with fail
        go_quiet (fail)
        have OD : Hid ((wr.drewN nq).ownsRow u1.heap.size 39 2 (.slice ao m cv) m (lCells L)) := OW.out
        have GD : Hid (GrowL 39 u1 (wr.drewN nq) (.slice ao m cv) L) := ⟨HK.out.2.2.2.2.own, below_drewN HK.out.2.2.2.2.since nq⟩
        have d1 : (wr.drewN nq).cell? ⟨b, o + k * 2, none⟩ = some (.string t) := C1.out
        have d2 : (wr.drewN nq).cell? ⟨b, o + k * 2 + 1, none⟩ = some (.int .i64 d) := C2.out
        have hsz2 : u1.heap.size ≤ (wr.drewN nq).heap.size := hsz
        clear x0 x1 c1 c2 hsz
        generalize wr.drewN nq = wd at OD GD d1 d2 hsz2 ⊢
        go_wp2_with (at_builtin; refine wpList_append_lies _ rfl _ _ _ rfl u1.heap.size 39 it (.agg #[.string ⟨#[]⟩, .int .i64 0]) 2 24 Try.underlying28 HT.out.1 HT.out.2.1 HT.out.2.2.1 HT.out.2.2.2 rfl (by omega) (.slice ao m cv) m (lCells L) (by rfl) (OD.out.alloc _) ⟨wd.heap.size, 0, none⟩ 1 1 [.string t, .int .i64 d] (by rfl) rfl (new_it wd 39 _ _) (it_cell _ _) (by omega) (by unfold maxLen; omega) (by omega) (by simp; omega) _ rfl ?_; intro g cap1 w1 hown1 hgrow hat hlt1)
        go_roundg (n - (k + 1))
        case measure => have := HK.out.1; omega
        case rel =>
          have hp : hadP l ⟨s, c⟩ k = true := HK.out.2.1.symm
          exact ⟨k + 1, _, _, _, L ++ [⟨t, d⟩], true, ⟨rfl, by omega, by rw [hadP_more HY.out, hp]; rfl, by rw [HK.out.2.2.1]; unfold putT; rw [if_pos rfl, if_pos rfl, take_more HY.out, putL_had _ _ _ hp], by rw [List.length_append, ← HK.out.2.2.2.1]; rfl, by omega, by have e := GD.out.step (x := ⟨t, d⟩) (by rw [← HK.out.2.2.2.1]; exact hown1) hgrow; rw [← HK.out.2.2.2.1] at e; exact e⟩, rfl, rfl, by go_num⟩
      | false =>
        have hp : hadP l ⟨s, c⟩ k = false := hP.symm
        have HP : Hid (hadP l ⟨s, c⟩ k = false) := hp
        have HT2 : Hid (L = l.take k) := by show L = _; rw [hL]; exact if_neg (by decide)
        obtain ⟨B, hB⟩ : ∃ B, B = aheadB ⟨s, c⟩ ⟨t, d⟩ := ⟨_, rfl⟩
        have HB : Hid (B = aheadB ⟨s, c⟩ ⟨t, d⟩) := hB
        have AH : Hid (∀ w1, Below wr.heap.size wr w1 → Calls Try.prog 33 #[.agg #[.string s, .int .i64 c], .agg #[.string t, .int .i64 d]] w1 fun e w' => e = .returned (.bool B) ∧ Below wr.heap.size wr w') := fun w1 b1 => (hahead_any w1 s c t d).mono fun e w' h => ⟨by rw [hB]; exact h.1, bel_trans b1 h.2⟩
        have mk : Hid (m = k) := by show m = k; rw [hm, HT2.out, List.length_take]; have := HN.out; omega
        clear hy hg hP hL hm hI hp hB
        go_wp2_with fail
        clear x0 x1 c1 c2
        refine letterQ ?_
        intro QQ hQQ
        have Z0 : Hid (Below wr.heap.size wr wr.drew) := (Below.refl _ _).drew
        refine wp_region_held_drew (S := fun w2 => Below wr.heap.size wr w2) (by kernel_rfl) Z0.out (fun hHeld => ?_)
        clear hHeld
        generalize wr.drew = q0 at Z0 ⊢
        refine wpAnyH_take (i := 0) (v := ?_) rfl (by kernel_rfl) (by kernel_rfl) (by kernel_rfl) (fun _ _ _ h => h) (Or.inl ⟨by rfl, ?_⟩) Z0.out ?_
        rotate_left
        · intro wq hSw; go_simp; first | done | with_reducible rfl
        simp only [List.getElem_toArray, List.getElem_cons_zero, Act.put, List.setIfInBounds_toArray, List.set_cons_zero, List.set_cons_succ]
        refine wpAnyH_take (i := 1) (v := ?_) rfl (by kernel_rfl) (by kernel_rfl) (by kernel_rfl) (fun _ _ _ h => h) (Or.inl ⟨by rfl, ?_⟩) Z0.out ?_
        rotate_left
        · intro wq hSw; go_simp; first | done | with_reducible rfl
        simp only [List.getElem_toArray, List.getElem_cons_zero, List.getElem_cons_succ, Act.put, List.setIfInBounds_toArray, List.set_cons_zero, List.set_cons_succ]
        refine wpAnyH_take (i := 2) (v := ?_) rfl (by kernel_rfl) (by kernel_rfl) (by kernel_rfl) (fun _ _ _ h => h) (Or.inl ⟨by rfl, ?_⟩) Z0.out ?_
        rotate_left
        · intro wq hSw; go_simp; first | done | with_reducible rfl
        simp only [List.getElem_toArray, List.getElem_cons_zero, List.getElem_cons_succ, Act.put, List.setIfInBounds_toArray, List.set_cons_zero, List.set_cons_succ]
        refine wpAnyH_take (i := 3) (v := ?_) rfl (by kernel_rfl) (by kernel_rfl) (by kernel_rfl) (fun _ _ _ h => h) (Or.inl ⟨by rfl, ?_⟩) Z0.out ?_
        rotate_left
        · intro wq hSw; have cl0 := (KX1.out.since hSw).cell 0; have cl1 := (KX1.out.since hSw).cell 1; go_simp; first | done | with_reducible rfl
        simp only [List.getElem_toArray, List.getElem_cons_zero, List.getElem_cons_succ, Act.put, List.setIfInBounds_toArray, List.set_cons_zero, List.set_cons_succ]
        refine wpAnyH_take (i := 4) (v := ?_) rfl (by kernel_rfl) (by kernel_rfl) (by kernel_rfl) (fun _ _ _ h => h) (Or.inl ⟨by rfl, ?_⟩) Z0.out ?_
        rotate_left
        · intro wq hSw; go_simp; first | done | with_reducible rfl
        simp only [List.getElem_toArray, List.getElem_cons_zero, List.getElem_cons_succ, Act.put, List.setIfInBounds_toArray, List.set_cons_zero, List.set_cons_succ]
        refine wpAnyH_take (i := 5) (v := ?_) rfl (by kernel_rfl) (by kernel_rfl) (by kernel_rfl) (fun _ _ _ h => h) (Or.inl ⟨by rfl, ?_⟩) Z0.out ?_
        rotate_left
        · intro wq hSw; go_simp; first | done | with_reducible rfl
        simp only [List.getElem_toArray, List.getElem_cons_zero, List.getElem_cons_succ, Act.put, List.setIfInBounds_toArray, List.set_cons_zero, List.set_cons_succ]
        refine wpAnyH_take (i := 6) (v := ?_) rfl (by kernel_rfl) (by kernel_rfl) (by kernel_rfl) (fun _ _ _ h => h) (Or.inl ⟨by rfl, ?_⟩) Z0.out ?_
        rotate_left
        · intro wq hSw; go_simp; first | done | with_reducible rfl
        simp only [List.getElem_toArray, List.getElem_cons_zero, List.getElem_cons_succ, Act.put, List.setIfInBounds_toArray, List.set_cons_zero, List.set_cons_succ]
        refine wpAnyH_take (i := 7) (v := ?_) rfl (by kernel_rfl) (by kernel_rfl) (by kernel_rfl) (fun _ _ _ h => h) (Or.inl ⟨by rfl, ?_⟩) Z0.out ?_
        rotate_left
        · intro wq hSw; have cl0 := keep_of_below hSw _ _ C1.out; have cl1 := keep_of_below hSw _ _ C2.out; go_simp; first | done | with_reducible rfl
        simp only [List.getElem_toArray, List.getElem_cons_zero, List.getElem_cons_succ, Act.put, List.setIfInBounds_toArray, List.set_cons_zero, List.set_cons_succ]
        refine wpAnyH_ready (rs := [8]) (by kernel_rfl) (by simp) ?_
        refine AllReadyH.cons rfl (fun K0 hK0 => ?_) ?_
        rotate_left
        · exact AllReadyH.nil
        refine step_func 33 #[.agg #[.string s, .int .i64 c], .agg #[.string t, .int .i64 d]] (by rfl) rfl (by simp [Act.eval]) (fun _ _ => by kernel_rfl) ?_
        refine (AH.out _ Z0.out).mono ?_
        rintro e q1 ⟨rfl, cc⟩
        have Z1 : Hid (Below wr.heap.size wr q1) := cc
        clear cc
        refine ⟨_, rfl, ?_⟩
        refine hK0.out _ _ Z1.out (fun hHeld => ?_)
        clear hK0 K0 hHeld
        refine wpAnyH_take (i := 9) (v := ?_) rfl (by kernel_rfl) (by kernel_rfl) (by kernel_rfl) (fun _ _ _ h => h) (Or.inl ⟨by rfl, ?_⟩) Z1.out ?_
        rotate_left
        · intro wq hSw; go_simp; first | done | with_reducible rfl
        simp only [List.getElem_toArray, List.getElem_cons_zero, List.getElem_cons_succ, Act.put, List.setIfInBounds_toArray, List.set_cons_zero, List.set_cons_succ]
        refine wpAnyH_done (by kernel_rfl) ?_ _
        refine NoPanic.normal ?_
        refine hQQ.out _ _ ?_
        clear hQQ
        have OD : Hid (q1.ownsRow u1.heap.size 39 2 (.slice ao m cv) m (lCells L)) := by have e := (HK.out.2.2.2.2.keep Z1.out).own; rw [← HK.out.2.2.2.1] at e; exact e
        have GD : Hid (GrowL 39 u1 q1 (.slice ao m cv) L) := HK.out.2.2.2.2.keep Z1.out
        have d1 : q1.cell? ⟨b, o + k * 2, none⟩ = some (.string t) := keep_of_below Z1.out _ _ C1.out
        have d2 : q1.cell? ⟨b, o + k * 2 + 1, none⟩ = some (.int .i64 d) := keep_of_below Z1.out _ _ C2.out
        have KQ : Hid (Blk q1 w.heap.size 39 #[.string s, .int .i64 c]) := KX1.out.since Z1.out
        have D1 : Hid (q1.cell? ⟨b, o + k * 2, none⟩ = some (.string t) ∧ q1.cell? ⟨b, o + k * 2 + 1, none⟩ = some (.int .i64 d)) := ⟨d1, d2⟩
        have x0 : q1.cell? ⟨w.heap.size, 0, none⟩ = some (.string s) := KQ.out.cell 0
        have x1 : q1.cell? ⟨w.heap.size, 1, none⟩ = some (.int .i64 c) := KQ.out.cell 1
        have hsz2 : u1.heap.size ≤ q1.heap.size := by have := Z1.out.size; omega
        clear Z0 Z1 AH C1 C2 KX1 hsz OW
        cases B with
        | true =>
          go_wp2_with (first | (at_builtin; refine wpList_append_lies _ rfl _ _ _ rfl u1.heap.size 39 it (.agg #[.string ⟨#[]⟩, .int .i64 0]) 2 24 Try.underlying28 HT.out.1 HT.out.2.1 HT.out.2.2.1 HT.out.2.2.2 rfl (by omega) (.slice ao m cv) m (lCells L) (by rfl) (OD.out.alloc _) ⟨q1.heap.size, 0, none⟩ 1 1 [.string s, .int .i64 c] (by rfl) rfl (new_it q1 39 _ _) (it_cell _ _) (by omega) (by unfold maxLen; omega) (by omega) (by simp; omega) _ rfl ?_; intro g cap1 w1 hown1 hgrow hat hlt1; have GX : Hid (GrowL 39 u1 w1 (.slice (some ⟨g, 0, none⟩) (m + 1) cap1) (L ++ [⟨s, c⟩])) := (by have e := GD.out.step (x := ⟨s, c⟩) (by rw [← HK.out.2.2.2.1]; exact hown1) hgrow; rw [← HK.out.2.2.2.1] at e; exact e); have OX : Hid (w1.ownsRow u1.heap.size 39 2 (.slice (some ⟨g, 0, none⟩) (m + 1) cap1) (m + 1) (lCells (L ++ [⟨s, c⟩]))) := (by have e := GX.out.own; rw [List.length_append, ← HK.out.2.2.2.1] at e; exact e); have BB : Hid (Below u1.heap.size u1 w1) := GX.out.since; clear d1 d2 x0 x1; have d1 : w1.cell? ⟨b, o + k * 2, none⟩ = some (.string t) := keep_of_below (bel_trans BX.out BB.out) _ _ (H4.out k _ HY.out).1; have d2 : w1.cell? ⟨b, o + k * 2 + 1, none⟩ = some (.int .i64 d) := keep_of_below (bel_trans BX.out BB.out) _ _ (H4.out k _ HY.out).2; have hsz3 : u1.heap.size ≤ w1.heap.size := BB.out.size; clear hown1 hgrow hat hlt1; obtain ⟨m2, hm2⟩ : ∃ m2, m2 = m + 1 := ⟨_, rfl⟩; rw [← hm2] at GX OX ⊢; have HM2 : Hid (m + 1 = m2) := hm2.symm; have m2b : m2 ≤ k + 2 := (by omega); clear hm2) | (at_builtin; refine wpList_append_lies _ rfl _ _ _ rfl u1.heap.size 39 it (.agg #[.string ⟨#[]⟩, .int .i64 0]) 2 24 Try.underlying28 HT.out.1 HT.out.2.1 HT.out.2.2.1 HT.out.2.2.2 rfl (by omega) (.slice (some ⟨g, 0, none⟩) m2 cap1) m2 (lCells (L ++ [⟨s, c⟩])) (by rfl) (OX.out.alloc _) ⟨w1.heap.size, 0, none⟩ 1 1 [.string t, .int .i64 d] (by rfl) rfl (new_it w1 39 _ _) (it_cell _ _) (by omega) (by unfold maxLen; omega) (by omega) (by simp; omega) _ rfl ?_; intro g2 cap2 w2 hown1 hgrow hat hlt1))
          go_roundg (n - (k + 1))
          case measure => have := HK.out.1; omega
          case rel => exact ⟨k + 1, _, _, _, L ++ [⟨s, c⟩] ++ [⟨t, d⟩], true, ⟨rfl, by omega, by rw [hadP_more HY.out, HP.out, ← HB.out]; rfl, by unfold putT; rw [if_pos rfl, take_more HY.out, putL_first _ _ _ HP.out HB.out.symm, HT2.out], by rw [List.length_append, List.length_append, ← HK.out.2.2.2.1, ← HM2.out]; rfl, by have e1 : m = k := mk.out; have e2 : m + 1 = m2 := HM2.out; omega, by have e := GX.out.step (x := ⟨t, d⟩) (g := g2) (cap := cap2) (by rw [List.length_append, ← HK.out.2.2.2.1]; show World.ownsRow _ _ _ _ (.slice _ (m + 1 + 1) _) (m + 1 + 1) _; rw [HM2.out]; exact hown1) hgrow; rw [List.length_append, ← HK.out.2.2.2.1] at e; rw [← HM2.out]; exact e⟩, rfl, rfl, by go_num⟩
        | false =>
          go_wp2_with (at_builtin; refine wpList_append_lies _ rfl _ _ _ rfl u1.heap.size 39 it (.agg #[.string ⟨#[]⟩, .int .i64 0]) 2 24 Try.underlying28 HT.out.1 HT.out.2.1 HT.out.2.2.1 HT.out.2.2.2 rfl (by omega) (.slice ao m cv) m (lCells L) (by rfl) (OD.out.alloc _) ⟨q1.heap.size, 0, none⟩ 1 1 [.string t, .int .i64 d] (by rfl) rfl (new_it q1 39 _ _) (it_cell _ _) (by omega) (by unfold maxLen; omega) (by omega) (by simp; omega) _ rfl ?_; intro g cap1 w1 hown1 hgrow hat hlt1)
          go_roundg (n - (k + 1))
          case measure => have := HK.out.1; omega
          case rel => exact ⟨k + 1, _, _, _, L ++ [⟨t, d⟩], false, ⟨rfl, by omega, by rw [hadP_more HY.out, HP.out, ← HB.out]; rfl, by unfold putT; rw [if_neg (by decide), take_more HY.out, HT2.out], by rw [List.length_append, ← HK.out.2.2.2.1]; rfl, by omega, by have e := GD.out.step (x := ⟨t, d⟩) (by rw [← HK.out.2.2.2.1]; exact hown1) hgrow; rw [← HK.out.2.2.2.1] at e; exact e⟩, rfl, rfl, by go_num⟩
    · have bk : ¬ (k : Int) < (n : Int) := by omega
      have kn : k = l.length := by have := HN.out; omega
      have tk : l.take k = l := by rw [kn, List.take_length]
      have OW : Hid (wr.ownsRow u1.heap.size 39 2 (.slice ao m cv) m (lCells L)) := by have e := hI.own; rw [← hm] at e; exact e
      cases P with
      | true =>
        have HE : Hid (L = putL l ⟨s, c⟩) := by show L = _; rw [hL]; unfold putT; rw [if_pos rfl, tk]
        clear hg hP hL hm hI kn tk
        go_wp2_with fail
        go_ret
        exact ⟨_, rfl, by rw [← HE.out]; exact HK.out.2.2.2.2.new BX.out.size, bel_trans BX.out HK.out.2.2.2.2.since⟩
      | false =>
        have HE : Hid (L ++ [⟨s, c⟩] = putL l ⟨s, c⟩) := by
          have e : L = l := by rw [hL]; unfold putT; rw [if_neg (by decide), tk]
          have hp : hadP l ⟨s, c⟩ k = false := hP.symm
          unfold hadP at hp
          rw [tk] at hp
          show _ = _
          rw [e, putL_hadn _ _ hp]
        clear hg hP hL hm hI kn tk
        go_wp2_with (at_builtin; refine wpList_append_lies _ rfl _ _ _ rfl u1.heap.size 39 it (.agg #[.string ⟨#[]⟩, .int .i64 0]) 2 24 Try.underlying28 HT.out.1 HT.out.2.1 HT.out.2.2.1 HT.out.2.2.2 rfl (by omega) (.slice ao m cv) m (lCells L) (by rfl) (OW.out.alloc _) ⟨wr.heap.size, 0, none⟩ 1 1 [.string s, .int .i64 c] (by rfl) rfl (new_it wr 39 _ _) (it_cell _ _) (by omega) (by unfold maxLen; omega) (by omega) (by simp; omega) _ rfl ?_; intro g cap1 w1 hown1 hgrow hat hlt1)
        go_wp2_with fail
        go_ret
        have e := HK.out.2.2.2.2.step (x := ⟨s, c⟩) (by rw [← HK.out.2.2.2.1]; exact hown1) hgrow
        rw [← HK.out.2.2.2.1] at e
        exact ⟨_, rfl, by rw [← HE.out]; exact e.new BX.out.size, bel_trans BX.out e.since⟩
/-- What is told of an offer: the list, and whether the key is there. -/
def ToldO (w : World) (v0 : Value) (l0 l : List Itm) (B : Bool) (e : Ending) (w' : World) : Prop := ∃ v, e = .returned (.tuple #[v, .bool B]) ∧ (∀ D : Nat → Prop, (∀ q, w.heap.size ≤ q → D q) → Held D (fun u => ItsL u v0 l0) w → Held D (fun u => ItsL u v l) w') ∧ Below w.heap.size w w'
set_option maxHeartbeats 1600000 in
theorem hoffer_any (w : World) (v : Value) (l : List Itm) (room : Nat) (s : ByteArray) (c : Int) (h : ItsL w v l) (hl : l.length ≤ 1000) (r1 : 1 ≤ room) (r2 : room ≤ 1000) :
    Calls Try.prog 13 #[.int .i64 (room : Int), v, .string s, .int .i64 c] w (ToldO w v l (offerL room l s c).1 (offerL room l s c).2) := by
  have WO : Hid (∀ w1, Below w.heap.size w w1 → Calls Try.prog 24 #[v, .string s] w1 (ToldL w1 (withoutL l s))) := fun w1 b1 => hwithout_any w1 v l s (h.keep (keep_of_below b1)) (by omega)
  have wl : (withoutL l s).length ≤ l.length := List.length_filter_le _ _
  have hh := h
  obtain ⟨A, cap, b, o, rfl, hc, h3, h4⟩ := h
  have HH : Hid (ItsL w (.slice A l.length cap) l) := hh
  have H3 : Hid (0 < l.length → A = some ⟨b, o, none⟩) := h3
  have H4 : Hid (∀ i x, l[i]? = some x → w.cell? ⟨b, o + i * 2, none⟩ = some (.string x.k) ∧ w.cell? ⟨b, o + i * 2 + 1, none⟩ = some (.int .i64 x.c)) := h4
  obtain ⟨n, hn⟩ : ∃ n, n = l.length := ⟨_, rfl⟩
  have HN : Hid (n = l.length) := hn
  rw [← hn] at hc hl HH WO wl ⊢
  clear h3 h4 hn hh
  go_enter Try.func13, Try.ntmps13
  go_wp2_with fail
  refine (WO.out _ (Below.refl _ _)).mono ?_
  rintro e u1 ⟨v1, rfl, I1, B1⟩
  have i1 := I1.its
  obtain ⟨A1, cap1, b1, o1, rfl, hc1, _, _⟩ := i1
  have HI1 : Hid (ItsL u1 (.slice A1 (withoutL l s).length cap1) (withoutL l s)) := I1.its
  have HB1 : Hid (Below w.heap.size w u1) := B1
  obtain ⟨m, hm⟩ : ∃ m, m = (withoutL l s).length := ⟨_, rfl⟩
  have HM : Hid (m = (withoutL l s).length) := hm
  rw [← hm] at hc1 HI1 wl ⊢
  clear I1 hm B1
  have PU : Hid (∀ w1, Below u1.heap.size u1 w1 → Calls Try.prog 25 #[.slice A1 m cap1, .agg #[.string s, .int .i64 c]] w1 (ToldL w1 (putL (withoutL l s) ⟨s, c⟩))) := fun w1 b1 => hput_any w1 _ _ s c (HI1.out.keep (keep_of_below b1)) (by rw [← HM.out]; omega)
  by_cases g1 : m < n
  · have g2 : (m : Int) < (n : Int) := by omega
    have HG : Hid (m < n) := g1
    clear g1
    go_wp2_with fail
    refine (PU.out _ (by first | exact Below.refl _ _ | exact below_drewN (Below.refl _ _) _)).mono ?_
    rintro e u2 ⟨v2, rfl, I2, B2⟩
    have E : Hid (offerL room l s c = (putL (withoutL l s) ⟨s, c⟩, true)) := if_pos (Or.inl (by rw [← HM.out, ← HN.out]; exact HG.out))
    have HI2 : Hid (NewL u1 u2 v2 (putL (withoutL l s) ⟨s, c⟩)) := I2
    have HB2 : Hid (Below w.heap.size w u2) := bel_trans HB1.out B2
    clear I2 B2
    go_wp2_with fail
    go_returns
    rw [E.out]
    exact ⟨_, rfl, fun D hD _ => HI2.out.mono fun q _ d => hD q (Nat.le_trans HB1.out.size d), HB2.out⟩
  have g2 : ¬ (m : Int) < (n : Int) := by omega
  by_cases g3 : n < room
  · have g4 : (n : Int) < (room : Int) := by omega
    have HG : Hid (n < room) := g3
    clear g3
    go_wp2_with fail
    refine (PU.out _ (by first | exact Below.refl _ _ | exact below_drewN (Below.refl _ _) _)).mono ?_
    rintro e u2 ⟨v2, rfl, I2, B2⟩
    have E : Hid (offerL room l s c = (putL (withoutL l s) ⟨s, c⟩, true)) := if_pos (Or.inr (by rw [← HN.out]; exact HG.out))
    have HI2 : Hid (NewL u1 u2 v2 (putL (withoutL l s) ⟨s, c⟩)) := I2
    have HB2 : Hid (Below w.heap.size w u2) := bel_trans HB1.out B2
    clear I2 B2
    go_wp2_with fail
    go_returns
    rw [E.out]
    exact ⟨_, rfl, fun D hD _ => HI2.out.mono fun q _ d => hD q (Nat.le_trans HB1.out.size d), HB2.out⟩
  have g4 : ¬ (n : Int) < (room : Int) := by omega
  have HG : Hid (¬ ((withoutL l s).length < l.length ∨ l.length < room)) := by show ¬ _; rw [← HM.out, ← HN.out]; omega
  obtain ⟨k, rfl⟩ : ∃ k, n = k + 1 := ⟨n - 1, by omega⟩
  obtain rfl := H3.out (by rw [← HN.out]; omega)
  obtain ⟨y, hy⟩ : ∃ y, l[k]? = some y := ⟨_, List.getElem?_eq_getElem (by rw [← HN.out]; omega)⟩
  obtain ⟨t, d⟩ := y
  have HL : Hid (lastC l = d) := by
    show lastC l = d
    unfold lastC
    rw [List.getLast?_eq_getElem?, ← HN.out, Nat.add_sub_cancel, hy]
  have c2 : u1.cell? ⟨b, o + k * 2 + 1, none⟩ = some (.int .i64 d) := keep_of_below HB1.out _ _ (H4.out k _ hy).2
  have e0 : ((k + 1 : Nat) : Int) - 1 = (k : Int) := by omega
  have bk0 : (0 : Int) ≤ (k : Int) := by omega
  have bk : (k : Int) < ((k + 1 : Nat) : Int) := by omega
  have ID : Hid (ItsL u1 (.slice (some ⟨b, o, none⟩) k cap) l.dropLast) := by
    have e := (HH.out.keep (keep_of_below HB1.out)).take k (by rw [← HN.out]; omega)
    rw [List.dropLast_eq_take, ← HN.out]
    exact e
  have PD : Hid (∀ w1, Below u1.heap.size u1 w1 → Calls Try.prog 25 #[.slice (some ⟨b, o, none⟩) k cap, .agg #[.string s, .int .i64 c]] w1 (ToldL w1 (putL l.dropLast ⟨s, c⟩))) := fun w1 b1 => hput_any w1 _ _ s c (ID.out.keep (keep_of_below b1)) (by rw [List.length_dropLast, ← HN.out]; omega)
  clear hy
  by_cases g5 : c > d
  · have E : Hid (offerL room l s c = (putL l.dropLast ⟨s, c⟩, true)) := by
      show offerL _ _ _ _ = _
      unfold offerL
      rw [if_neg HG.out, if_pos (by rw [HL.out]; exact g5)]
    go_wp2_with fail
    refine (PD.out _ (by first | exact Below.refl _ _ | exact below_drewN (Below.refl _ _) _)).mono ?_
    rintro e u2 ⟨v2, rfl, I2, B2⟩
    have HI2 : Hid (NewL u1 u2 v2 (putL l.dropLast ⟨s, c⟩)) := I2
    have HB2 : Hid (Below w.heap.size w u2) := bel_trans HB1.out B2
    clear I2 B2
    go_wp2_with fail
    go_returns
    rw [E.out]
    exact ⟨_, rfl, fun D hD _ => HI2.out.mono fun q _ d => hD q (Nat.le_trans HB1.out.size d), HB2.out⟩
  · have E : Hid (offerL room l s c = (l, false)) := by
      show offerL _ _ _ _ = _
      unfold offerL
      rw [if_neg HG.out, if_neg (by rw [HL.out]; exact g5)]
    go_wp2_with fail
    go_returns
    rw [E.out]
    exact ⟨_, rfl, fun D hD h => h.since HB1.out, HB1.out⟩
def FewL (l : List Itm) : Prop := l.length ≤ 150 ∧ ∀ (i : Nat) (x : Itm), l[i]? = some x → x.k.size ≤ 100
set_option maxHeartbeats 1600000 in
theorem hfew_any (w : World) (v : Value) (l : List Itm) (h : ItsL w v l) (hl : l.length ≤ 9223372036854775807) (hk : ∀ (i : Nat) (x : Itm), l[i]? = some x → x.k.size ≤ 9223372036854775807) :
    Calls Try.prog 8 #[v] w (TellsW w (FewL l)) := by
  have HZ : Hid (∀ (i : Nat) (x : Itm), l[i]? = some x → x.k.size ≤ 9223372036854775807) := hk
  clear hk
  obtain ⟨A, cap, b, o, rfl, hc, h3, h4⟩ := h
  have H3 : Hid (0 < l.length → A = some ⟨b, o, none⟩) := h3
  have H4 : Hid (∀ i x, l[i]? = some x → w.cell? ⟨b, o + i * 2, none⟩ = some (.string x.k) ∧ w.cell? ⟨b, o + i * 2 + 1, none⟩ = some (.int .i64 x.c)) := h4
  obtain ⟨n, hn⟩ : ∃ n, n = l.length := ⟨_, rfl⟩
  have HN : Hid (n = l.length) := hn
  rw [← hn] at hc hl ⊢
  clear h3 h4 hn
  go_enter Try.func8, Try.ntmps8
  go_wp2_with fail
  go_loop [6] (fun i => ∃ k : Nat, (k ≤ n ∧ ∀ j x, j < k → l[j]? = some x → x.k.size ≤ 100) ∧ i = .int .i64 (k : Int)) (fun i => n - (intOf i).toNat)
  case atStart => exact ⟨0, ⟨by omega, fun j x hj => by omega⟩, rfl⟩
  case round =>
    obtain ⟨k, hk, rfl⟩ := hrel
    have HK : Hid (∀ j x, j < k → l[j]? = some x → x.k.size ≤ 100) := hk.2
    have hkn := hk.1
    clear hk
    by_cases hz : k < n
    · obtain rfl := H3.out (by rw [← HN.out]; omega)
      obtain ⟨y, hy⟩ : ∃ y, l[k]? = some y := ⟨_, List.getElem?_eq_getElem (by rw [← HN.out]; exact hz)⟩
      obtain ⟨c1, c2⟩ := H4.out k y hy
      have hs := HZ.out k y hy
      obtain ⟨t, d⟩ := y
      simp only at c1 c2 hs
      have HY : Hid (l[k]? = some ⟨t, d⟩) := hy
      have bk : (k : Int) < (n : Int) := by omega
      have bk0 : (0 : Int) ≤ (k : Int) := by omega
      clear hy
      by_cases e1 : t.size ≤ 100
      rotate_left
      · have e2 : (t.size : Int) > 100 := by omega
        have HE : Hid (¬ t.size ≤ 100) := e1
        clear e1
        go_wp2_with fail
        go_ret
        exact ⟨false, rfl, ⟨fun h => (by cases h), fun h => absurd (h.2 k _ HY.out) HE.out⟩, rfl⟩
      have e2 : ¬ (t.size : Int) > 100 := by omega
      have HE : Hid (t.size ≤ 100) := e1
      go_wp2_with fail
      go_round
      case rel =>
        refine ⟨k + 1, ⟨by omega, fun j x hj hx => ?_⟩, by go_num⟩
        by_cases ej : j = k
        · subst ej
          have := HY.out.symm.trans hx
          cases this
          exact HE.out
        · exact HK.out j x (by omega) hx
      case measure => simp [intOf]; omega
    · have bk : ¬ (k : Int) < (n : Int) := by omega
      have AL : Hid (∀ (i : Nat) (x : Itm), l[i]? = some x → x.k.size ≤ 100) := fun i x hi => HK.out i x (by have := (List.getElem?_eq_some_iff.1 hi).1; have := HN.out; omega) hi
      by_cases e : n ≤ 150
      · have e2 : (n : Int) ≤ 150 := by omega
        go_wp2_with fail
        go_ret
        exact ⟨true, rfl, ⟨fun _ => ⟨by rw [← HN.out]; exact e, AL.out⟩, fun _ => rfl⟩, rfl⟩
      · have e2 : ¬ (n : Int) ≤ 150 := by omega
        go_wp2_with fail
        go_ret
        exact ⟨false, rfl, ⟨fun h => (by cases h), fun h => absurd h.1 (by rw [← HN.out]; exact e)⟩, rfl⟩
theorem alike_upto {l m : List Itm} (hn : l.length = m.length) (h : ∀ (i : Nat) (x y : Itm), l[i]? = some x → m[i]? = some y → x = y) : l = m := by
  apply List.ext_getElem? fun i => ?_
  by_cases hi : i < l.length
  · rw [List.getElem?_eq_getElem hi, List.getElem?_eq_getElem (by omega)]
    exact congrArg some (h i _ _ (List.getElem?_eq_getElem hi) (List.getElem?_eq_getElem (by omega)))
  · rw [List.getElem?_eq_none (by omega), List.getElem?_eq_none (by omega)]
set_option maxHeartbeats 3200000 in
theorem hsame_any (w : World) (v v' : Value) (l l' : List Itm) (h : ItsL w v l) (h' : ItsL w v' l') (hl : l.length ≤ 1000) (hl' : l'.length ≤ 1000) :
    Calls Try.prog 16 #[v, v'] w (TellsB w (l = l')) := by
  obtain ⟨A', cap', b', o', rfl, hc', h3', h4'⟩ := h'
  have Y3 : Hid (0 < l'.length → A' = some ⟨b', o', none⟩) := h3'
  have Y4 : Hid (∀ i x, l'[i]? = some x → w.cell? ⟨b', o' + i * 2, none⟩ = some (.string x.k) ∧ w.cell? ⟨b', o' + i * 2 + 1, none⟩ = some (.int .i64 x.c)) := h4'
  obtain ⟨n', hn'⟩ : ∃ n', n' = l'.length := ⟨_, rfl⟩
  have HN' : Hid (n' = l'.length) := hn'
  rw [← hn'] at hc' hl' ⊢
  clear h3' h4' hn'
  obtain ⟨A, cap, b, o, rfl, hc, h3, h4⟩ := h
  have H3 : Hid (0 < l.length → A = some ⟨b, o, none⟩) := h3
  have H4 : Hid (∀ i x, l[i]? = some x → w.cell? ⟨b, o + i * 2, none⟩ = some (.string x.k) ∧ w.cell? ⟨b, o + i * 2 + 1, none⟩ = some (.int .i64 x.c)) := h4
  obtain ⟨n, hn⟩ : ∃ n, n = l.length := ⟨_, rfl⟩
  have HN : Hid (n = l.length) := hn
  rw [← hn] at hc hl ⊢
  clear h3 h4 hn
  by_cases c1 : n = n'
  rotate_left
  · have e1 : ((n : Int) != (n' : Int)) = true := by simp; omega
    have HE : Hid (n ≠ n') := c1
    clear c1
    go_enter Try.func16, Try.ntmps16
    go_wp2_with fail
    go_ret
    exact ⟨false, rfl, ⟨fun h => (by cases h), fun h => absurd (by rw [HN.out, HN'.out, h]) HE.out⟩, Below.refl _ _⟩
  subst c1
  go_enter Try.func16, Try.ntmps16
  go_wp2_with fail
  go_loopg [13] n (fun gk i wr => ∃ k : Nat, (gk = n - k ∧ k ≤ n ∧ (∀ i x y, i < k → l[i]? = some x → l'[i]? = some y → x = y) ∧ Below w.heap.size w wr) ∧ i = .int .i64 (k : Int))
  case atStart => exact ⟨0, ⟨rfl, by omega, fun r x y hr => by omega, Below.refl _ _⟩, rfl⟩
  case round =>
    obtain ⟨k, ⟨hg, hk, hP, hB⟩, rfl⟩ := hrel
    have HK : Hid (gk = n - k ∧ (∀ i x y, i < k → l[i]? = some x → l'[i]? = some y → x = y) ∧ Below w.heap.size w wr) := ⟨hg, hP, hB⟩
    by_cases hz : k < n
    · obtain rfl := H3.out (by rw [← HN.out]; omega)
      obtain rfl := Y3.out (by rw [← HN'.out]; omega)
      obtain ⟨x, hx⟩ : ∃ x, l[k]? = some x := ⟨_, List.getElem?_eq_getElem (by rw [← HN.out]; exact hz)⟩
      obtain ⟨y, hy⟩ : ∃ y, l'[k]? = some y := ⟨_, List.getElem?_eq_getElem (by rw [← HN'.out]; exact hz)⟩
      have p1 := (H4.out k _ hx).1
      have p2 := (H4.out k _ hx).2
      have q1 := (Y4.out k _ hy).1
      have q2 := (Y4.out k _ hy).2
      obtain ⟨s, c⟩ := x
      obtain ⟨t, d⟩ := y
      simp only at p1 p2 q1 q2
      have p1 := keep_of_below hB _ _ p1
      have p2 := keep_of_below hB _ _ p2
      have q1 := keep_of_below hB _ _ q1
      have q2 := keep_of_below hB _ _ q2
      have HX : Hid (l[k]? = some ⟨s, c⟩ ∧ l'[k]? = some ⟨t, d⟩) := ⟨hx, hy⟩
      have bk : (k : Int) < (n : Int) := by omega
      have bk0 : (0 : Int) ≤ (k : Int) := by omega
      clear hx hy hg hP hB
      by_cases e : s = t
      rotate_left
      · have q : (s.toList == t.toList) = false := by rw [str_eq, decide_eq_false e]
        have q2 : (s.toList != t.toList) = true := by simp [bne, q]
        have HE : Hid (s ≠ t) := e
        clear e
        go_wp2_with fail
        go_quiet (fail)
        go_wp2_with fail
        go_ret
        exact ⟨false, rfl, ⟨fun h => (by cases h), fun h => absurd (by have e := HX.out.1.symm.trans ((by rw [h] : l[k]? = l'[k]?).trans HX.out.2); cases e; rfl) HE.out⟩, below_drewN HK.out.2.2 nq⟩
      have q : (s.toList == t.toList) = true := by rw [str_eq, decide_eq_true e]
      have q2 : (s.toList != t.toList) = false := by simp [bne, q]
      have HE : Hid (s = t) := e
      clear e
      by_cases e3 : c = d
      rotate_left
      · have e4 : (c != d) = true := by simpa using e3
        have HE3 : Hid (c ≠ d) := e3
        clear e3
        go_wp2_with fail
        go_quiet (fail)
        go_wp2_with fail
        go_ret
        exact ⟨false, rfl, ⟨fun h => (by cases h), fun h => absurd (by have e := HX.out.1.symm.trans ((by rw [h] : l[k]? = l'[k]?).trans HX.out.2); cases e; rfl) HE3.out⟩, below_drewN HK.out.2.2 nq⟩
      have e4 : (c != d) = false := by simpa using e3
      have HE3 : Hid (c = d) := e3
      clear e3
      go_wp2_with fail
      go_quiet (fail)
      go_wp2_with fail
      go_roundg (n - (k + 1))
      case measure => have := HK.out.1; omega
      case rel =>
        refine ⟨k + 1, ⟨rfl, by omega, fun i x y hi hx hy => ?_, below_drewN HK.out.2.2 nq⟩, by go_num⟩
        by_cases ei : i = k
        · subst ei
          have a1 := HX.out.1.symm.trans hx
          have a2 := HX.out.2.symm.trans hy
          cases a1
          cases a2
          rw [HE.out, HE3.out]
        · exact HK.out.2.1 i x y (by omega) hx hy
    · have bk : ¬ (k : Int) < (n : Int) := by omega
      have HE : Hid (l = l') := alike_upto (by rw [← HN.out, ← HN'.out]) fun i x y hx hy => HK.out.2.1 i x y (by have := (List.getElem?_eq_some_iff.1 hx).1; have := HN.out; omega) hx hy
      clear hg hP hB
      go_wp2_with fail
      go_ret
      exact ⟨true, rfl, ⟨fun _ => HE.out, fun _ => rfl⟩, HK.out.2.2⟩
end Go.Proofs.Ytejdfahokbheoaa
