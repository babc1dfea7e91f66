
/-
  The entries of a sketch as items that stand (layer 15): what holds of them, plain.
  The document's list of layer 15.
  What the document tells of a key (layer 15).
  The law's own question of layer 15 whether two lists are the same.
  The document's question whether two sketches are the same (layer 15): of one and the same it says yes.
-/
import Derived.Test.YtihealembikkiaaElCtr
import Derived.Test.YtihealembikkiaaElM6
import Derived.Test.YtihealembikkiaaElRef
import Derived.Test.YtihealembikkiaaLstRGrow
namespace Go.Proofs.Ytihealembikkiaa
open Go.RowKit Fm Bl Lt El L2 L10 L14 Go.Deep
set_option linter.unusedVariables false
set_option maxRecDepth 20000

/-- All counts. -/
def sumC : List Hv.Itm → Int
  | [] => 0
  | x :: r => x.c + sumC r
theorem sumC_append : ∀ l m, sumC (l ++ m) = sumC l + sumC m
  | [], m => by simp [sumC]
  | x :: r, m => by rw [List.cons_append, sumC, sumC, sumC_append r m]; omega
theorem sumC_put : ∀ (l : List Hv.Itm) (x : Hv.Itm), sumC (Hv.putL l x) = sumC l + x.c
  | [], x => by simp [Hv.putL, sumC]
  | y :: r, x => by
    rw [Hv.putL]
    split
    · simp only [sumC]; omega
    · simp only [sumC, sumC_put r x]; omega
theorem sumC_nn : ∀ {l : List Hv.Itm}, (∀ x, x ∈ l → 0 ≤ x.c) → 0 ≤ sumC l
  | [], _ => Int.le_refl _
  | x :: r, h => by
    have := sumC_nn (l := r) fun y m => h y (List.mem_cons_of_mem _ m)
    have := h x (List.mem_cons_self ..)
    rw [sumC]
    omega
theorem sumC_take {l : List Hv.Itm} (h : ∀ x, x ∈ l → 0 ≤ x.c) (k : Nat) : 0 ≤ sumC (l.take k) ∧ sumC (l.take k) ≤ sumC l := by
  have e : sumC l = sumC (l.take k) + sumC (l.drop k) := by rw [← sumC_append, List.take_append_drop]
  have := sumC_nn (l := l.drop k) fun x m => h x (List.mem_of_mem_drop m)
  have := sumC_nn (l := l.take k) fun x m => h x (List.mem_of_mem_take m)
  omega
theorem sumC_next {l : List Hv.Itm} {k : Nat} {x : Hv.Itm} (h : l[k]? = some x) : sumC (l.take (k + 1)) = sumC (l.take k) + x.c := by
  rw [take_nextE h, sumC_append]
  simp [sumC]
theorem listEs_mem (most : Int) : ∀ (es : List Ent) (l : List Hv.Itm) (x : Hv.Itm), x ∈ listEs most l es ↔ x ∈ l ∨ ∃ e, e ∈ es ∧ e.v ≥ most ∧ x = ⟨e.k, e.v⟩
  | [], l, x => by simp [listEs]
  | e :: r, l, x => by
    rw [listEs, listEs_mem most r]
    by_cases h : e.v ≥ most
    · rw [if_pos h, Hv.putL_mem]
      constructor
      · rintro ((rfl | m) | ⟨y, m, a, b⟩)
        · exact Or.inr ⟨e, List.mem_cons_self .., h, rfl⟩
        · exact Or.inl m
        · exact Or.inr ⟨y, List.mem_cons_of_mem _ m, a, b⟩
      · rintro (m | ⟨y, m, a, b⟩)
        · exact Or.inl (Or.inr m)
        · rcases List.mem_cons.1 m with rfl | m
          · exact Or.inl (Or.inl b)
          · exact Or.inr ⟨y, m, a, b⟩
    · rw [if_neg h]
      constructor
      · rintro (m | ⟨y, m, a, b⟩)
        · exact Or.inl m
        · exact Or.inr ⟨y, List.mem_cons_of_mem _ m, a, b⟩
      · rintro (m | ⟨y, m, a, b⟩)
        · exact Or.inl m
        · rcases List.mem_cons.1 m with rfl | m
          · exact absurd a h
          · exact Or.inr ⟨y, m, a, b⟩
theorem listBs_mem (most : Int) : ∀ (bs : List Bkt) (l : List Hv.Itm) (x : Hv.Itm), x ∈ listBs most l bs ↔ x ∈ l ∨ ∃ b, b ∈ bs ∧ ∃ e, e ∈ b.es ∧ e.v ≥ most ∧ x = ⟨e.k, e.v⟩
  | [], l, x => by simp [listBs]
  | b :: r, l, x => by
    rw [listBs, listBs_mem most r, listEs_mem]
    constructor
    · rintro ((m | h) | ⟨y, m, h⟩)
      · exact Or.inl m
      · exact Or.inr ⟨b, List.mem_cons_self .., h⟩
      · exact Or.inr ⟨y, List.mem_cons_of_mem _ m, h⟩
    · rintro (m | ⟨y, m, h⟩)
      · exact Or.inl (Or.inl m)
      · rcases List.mem_cons.1 m with rfl | m
        · exact Or.inl (Or.inr h)
        · exact Or.inr ⟨y, m, h⟩
theorem listEs_sum {most : Int} : ∀ {es : List Ent} {l : List Hv.Itm}, (∀ e, e ∈ es → e.v ≥ most) → sumC (listEs most l es) = sumC l + sumE (fun _ => true) es ∧ (listEs most l es).length = l.length + es.length
  | [], l, _ => by simp [listEs, sumE]
  | e :: r, l, h => by
    obtain ⟨h1, h2⟩ := listEs_sum (l := Hv.putL l ⟨e.k, e.v⟩) (es := r) fun y m => h y (List.mem_cons_of_mem _ m)
    rw [listEs, if_pos (h e (List.mem_cons_self ..)), h1, h2, sumC_put, Hv.putL_length, sumE, if_pos rfl, List.length_cons]
    exact ⟨by show sumC l + e.v + _ = _; omega, by omega⟩
/-- How many entries there are. -/
def cntB : List Bkt → Nat
  | [] => 0
  | b :: r => b.es.length + cntB r
theorem listBs_sum {most : Int} : ∀ {bs : List Bkt} {l : List Hv.Itm}, (∀ b, b ∈ bs → ∀ e, e ∈ b.es → e.v ≥ most) → sumC (listBs most l bs) = sumC l + sumB (fun _ => true) bs ∧ (listBs most l bs).length = l.length + cntB bs
  | [], l, _ => by simp [listBs, sumB, cntB]
  | b :: r, l, h => by
    obtain ⟨e1, e2⟩ := listEs_sum (most := most) (l := l) (h b (List.mem_cons_self ..))
    obtain ⟨h1, h2⟩ := listBs_sum (most := most) (l := listEs most l b.es) (bs := r) fun y m => h y (List.mem_cons_of_mem _ m)
    rw [listBs, h1, h2, e1, e2, sumB, cntB]
    exact ⟨by omega, by omega⟩
theorem cntB_le {room : Nat} : ∀ {bs : List Bkt}, (∀ b, b ∈ bs → b.es.length ≤ room) → cntB bs ≤ bs.length * room
  | [], _ => by simp [cntB]
  | b :: r, h => by
    have h1 := cntB_le (bs := r) fun y m => h y (List.mem_cons_of_mem _ m)
    have h2 := h b (List.mem_cons_self ..)
    rw [cntB, List.length_cons, Nat.succ_mul]
    omega
theorem listBs_len (most : Int) : ∀ (bs : List Bkt) (l : List Hv.Itm), (listBs most l bs).length ≤ l.length + cntB bs
  | [], l => by simp [listBs, cntB]
  | b :: r, l => by
    have h1 : ∀ (es : List Ent) (l : List Hv.Itm), (listEs most l es).length ≤ l.length + es.length := by
      intro es
      induction es with
      | nil => intro l; simp [listEs]
      | cons e q ih =>
        intro l
        rw [listEs, List.length_cons]
        have := ih (if e.v ≥ most then Hv.putL l ⟨e.k, e.v⟩ else l)
        split at this
        · rename_i g
          rw [if_pos g]
          rw [Hv.putL_length] at this
          omega
        · rename_i g
          rw [if_neg g]
          omega
    have h2 := listBs_len most r (listEs most l b.es)
    have h3 := h1 b.es l
    rw [listBs, cntB]
    omega
end Go.Proofs.Ytihealembikkiaa
namespace Go.Proofs.Ytihealembikkiaa
open Go.RowKit Fm Bl Lt El L2 L10 L14 Go.Deep
set_option linter.unusedVariables false
set_option maxRecDepth 20000

theorem listEs_append (most : Int) : ∀ (a b : List Ent) (l : List Hv.Itm), listEs most l (a ++ b) = listEs most (listEs most l a) b
  | [], b, l => rfl
  | e :: r, b, l => by rw [List.cons_append, listEs, listEs, listEs_append most r b]
theorem listBs_append (most : Int) : ∀ (a b : List Bkt) (l : List Hv.Itm), listBs most l (a ++ b) = listBs most (listBs most l a) b
  | [], b, l => rfl
  | e :: r, b, l => by rw [List.cons_append, listBs, listBs, listBs_append most r b]
theorem listEs_len (most : Int) : ∀ (es : List Ent) (l : List Hv.Itm), (listEs most l es).length ≤ l.length + es.length
  | [], l => by simp [listEs]
  | e :: r, l => by
    rw [listEs, List.length_cons]
    have := listEs_len most r (if e.v ≥ most then Hv.putL l ⟨e.k, e.v⟩ else l)
    split at this
    · rename_i g
      rw [if_pos g]
      rw [Hv.putL_length] at this
      omega
    · rename_i g
      rw [if_neg g]
      omega
theorem newL_next {w u u2 : World} {v : Value} {l : List Hv.Itm} (h : NewL w u v l) (b : Below u.heap.size u u2) : NewL w u2 v l := Held.since h b
set_option maxHeartbeats 3200000 in
theorem elist_any (w : World) (x : Value) (F : Elk) (most : Int) (h : ElAt w x F) (hn : F.bs.length ≤ 300) (hE : ∀ (i : Nat) (b : Bkt), F.bs[i]? = some b → b.es.length ≤ 20) :
    Calls Try.prog 18 #[x, .int .i64 most] w fun e w' => ∃ lv, e = .returned lv ∧ NewL w w' lv (listBs most [] F.bs) ∧ Below w.heap.size w w' := by
  obtain ⟨bv, rv, rfl, hB, hr⟩ := h
  obtain ⟨A, cap, b, o, rfl, hc, h3, h4⟩ := hB
  have H3 := hidE h3
  have H4 := hidE h4
  have HE := hidE hE
  obtain ⟨n, hnn⟩ : ∃ n, n = F.bs.length := ⟨_, rfl⟩
  have HN := hidE hnn
  have BX : Hid (Below w.heap.size w (w.alloc (.cells (elc F (.slice A n cap) rv) 32))) := bel_alloc _ _
  have KX : Hid (Blk (w.alloc (.cells (elc F (.slice A n cap) rv) 32)) w.heap.size 32 (elc F (.slice A n cap) rv)) := Blk.new _ _ _
  rw [← hnn] at hc hn ⊢
  clear h3 h4 hE hr hnn
  unfold elv elc at *
  go_enter Try.func18, Try.ntmps18
  go_wp2_with fail
  generalize w.alloc (.cells #[.int .u64 F.S, .int .i64 F.room, .int .i64 F.votes, .slice A n cap, .int .u64 F.LS, .int .i64 F.LM, rv] 32) = X at BX KX ⊢
  go_loopg [5, 6] n (fun gk lv i wr => ∃ k : Nat, (gk = n - k ∧ k ≤ n ∧ Below X.heap.size X wr ∧ NewL w wr lv (listBs most [] (F.bs.take k)) ∧ (listBs most [] (F.bs.take k)).length ≤ k * 20) ∧ i = .int .i64 (k : Int))
  case atStart => exact ⟨0, ⟨rfl, by omega, Below.refl _ _, fun u _ => its_none u, by simp [listBs]⟩, rfl⟩
  case round =>
    obtain ⟨k, ⟨hgk, hk, hB, hL, hlen⟩, rfl⟩ := hrel
    have HB := hidE hB
    have HG := hidE hgk
    have HL := hidE hL
    have HLN := hidE hlen
    have x3 : wr.cell? ⟨w.heap.size, 3, none⟩ = some (.slice A n cap) := (KX.out.since HB.out).cell 3
    clear hB hgk hL hlen
    by_cases kz : k < n
    · have bk : (k : Int) < (n : Int) := by omega
      have bk0 : (0 : Int) ≤ (k : Int) := by omega
      obtain rfl := H3.out (by rw [← HN.out]; omega)
      obtain ⟨y, hy⟩ : ∃ y, F.bs[k]? = some y := ⟨_, List.getElem?_eq_getElem (by rw [← HN.out]; exact kz)⟩
      have em := HE.out k y hy
      obtain ⟨ev, q1, _, A2, cp2, b2, o2, rfl, hc2, h5, h6⟩ := H4.out k y hy
      have q1 := keep_of_below (bel_trans BX.out HB.out) _ _ q1
      have H5 := hidE h5
      have H6 := hidE h6
      have nx := take_nextE hy
      have NX : Hid (listBs most [] (F.bs.take (k + 1)) = listEs most (listBs most [] (F.bs.take k)) y.es) := by
        show listBs _ _ _ = _
        rw [nx, listBs_append]
        rfl
      obtain ⟨L, hLL⟩ : ∃ L, L = listBs most [] (F.bs.take k) := ⟨_, rfl⟩
      rw [← hLL] at HL HLN NX
      have ll := HLN.out
      obtain ⟨m, hm⟩ : ∃ m, m = y.es.length := ⟨_, rfl⟩
      have HM := hidE hm
      rw [← hm] at q1 hc2 em
      clear h5 h6 hy hm nx hLL
      go_wp2_with fail
      clear x3 q1
      go_loopg [5, 23] m (fun gj lv i wi => ∃ j : Nat, (gj = m - j ∧ j ≤ m ∧ Below X.heap.size X wi ∧ NewL w wi lv (listEs most L (y.es.take j)) ∧ (listEs most L (y.es.take j)).length ≤ k * 20 + j) ∧ i = .int .i64 (j : Int))
      case atStart => exact ⟨0, ⟨rfl, by omega, HB.out, HL.out, by simpa [listEs] using ll⟩, rfl⟩
      case round =>
        clear HB HL
        obtain ⟨j, ⟨hgj, hj, hB, hL, hlen⟩, rfl⟩ := hrel
        have HB := hidE hB
        have HJ := hidE hgj
        have HL := hidE hL
        have HLJ := hidE hlen
        clear hB hgj hL hlen
        by_cases jz : j < m
        · have bj : (j : Int) < (m : Int) := by omega
          have bj0 : (0 : Int) ≤ (j : Int) := by omega
          obtain rfl := H5.out (by rw [← HM.out]; omega)
          obtain ⟨e, he⟩ : ∃ e, y.es[j]? = some e := ⟨_, List.getElem?_eq_getElem (by rw [← HM.out]; exact jz)⟩
          obtain ⟨p1, p2, p3⟩ := H6.out j e he
          have ny := take_nextE he
          obtain ⟨t, d, f⟩ := e
          simp only at p1 p2 p3
          have p1 := keep_of_below (bel_trans BX.out HB.out) _ _ p1
          have p2 := keep_of_below (bel_trans BX.out HB.out) _ _ p2
          have p3 := keep_of_below (bel_trans BX.out HB.out) _ _ p3
          have NY : Hid (listEs most L (y.es.take (j + 1)) = if d ≥ most then Hv.putL (listEs most L (y.es.take j)) ⟨t, d⟩ else listEs most L (y.es.take j)) := by
            show listEs _ _ _ = _
            rw [ny, listEs_append]
            rfl
          obtain ⟨T, hT⟩ : ∃ T, T = listEs most L (y.es.take j) := ⟨_, rfl⟩
          rw [← hT] at HL HLJ NY
          have lt := HLJ.out
          clear he ny hT
          by_cases g : d ≥ most
          · have N1 : Hid (listEs most L (y.es.take (j + 1)) = Hv.putL T ⟨t, d⟩) := by show listEs _ _ _ = _; rw [NY.out, if_pos g]
            go_wp2_with fail
            clear p1 p2 p3
            refine (hput_any _ _ T t d (HL.out.its.keep (keep_of_below (bel_alloc _ _))) (by omega)).mono ?_
            rintro e u5 ⟨v5, rfl, g5, b5⟩
            have B5 : Hid (Below wr.heap.size wr u5) := bel_trans (bel_alloc _ _) b5
            have N5 : Hid (NewL w u5 v5 (Hv.putL T ⟨t, d⟩)) := g5.mono fun q _ d => by have d2 : _ ≤ q := d; have e1 := BX.out.size; have e2 := HB.out.size; simp at d2; show w.heap.size ≤ q; omega
            clear g5 b5
            go_wp2_with fail
            go_roundg (m - (j + 1))
            case measure => have := HJ.out; omega
            case rel => exact ⟨j + 1, ⟨rfl, by omega, bel_trans HB.out B5.out, by rw [N1.out]; exact N5.out, by rw [N1.out, Hv.putL_length]; omega⟩, by go_num⟩
          · have N1 : Hid (listEs most L (y.es.take (j + 1)) = T) := by show listEs _ _ _ = _; rw [NY.out, if_neg g]
            go_wp2_with fail
            go_roundg (m - (j + 1))
            case measure => have := HJ.out; omega
            case rel => exact ⟨j + 1, ⟨rfl, by omega, bel_trans HB.out (bel_alloc _ _), by rw [N1.out]; exact newL_next HL.out (bel_alloc _ _), by rw [N1.out]; omega⟩, by go_num⟩
        · have bj : ¬ (j : Int) < (m : Int) := by omega
          have te : y.es.take j = y.es := List.take_of_length_le (by rw [← HM.out]; omega)
          have TE := hidE te
          clear te
          go_wp2_with fail
          go_roundg (n - (k + 1))
          case measure => have := HG.out; omega
          case rel => exact ⟨k + 1, ⟨rfl, by omega, HB.out, by rw [NX.out, ← TE.out]; exact HL.out, by rw [NX.out, ← TE.out]; have := HLJ.out; omega⟩, by go_num⟩
    · have bk : ¬ (k : Int) < (n : Int) := by omega
      have te : F.bs.take k = F.bs := List.take_of_length_le (by rw [← HN.out]; omega)
      have TE := hidE te
      clear te
      go_wp2_with fail
      go_returns
      exact ⟨_, rfl, by have := HL.out; rwa [TE.out] at this, bel_trans BX.out HB.out⟩
end Go.Proofs.Ytihealembikkiaa
namespace Go.Proofs.Ytihealembikkiaa
open Go.RowKit Fm Bl Lt El L2 L10 L14 Go.Deep
set_option linter.unusedVariables false
set_option maxRecDepth 20000

set_option maxHeartbeats 4000000 in
set_option maxRecDepth 20000 in
theorem eget_any (w : World) (x : Value) (F : Elk) (s : ByteArray) (b : Bkt) (lo hi : Int) (ex fu : Bool) (h : ElAt w x F) (uS : U F.S) (rt : RightE F) (hs : s.size ≤ 100) (hb : F.bs[placeN F.S s F.bs.length 0]? = some b) (hg : getE F.R (F.L 0) F.LS b F.Z s = (lo, hi, ex, fu)) :
    Calls Try.prog 16 #[x, .string s] w fun e w' => e = .returned (.tuple #[.int .i64 lo, .int .i64 hi, .bool ex, .bool fu]) ∧ Below w.heap.size w w' := by
  have rb := rt.2.2.2.2.2.2.2.2.2 _ b hb
  have n1 := rt.2.2.2.2.1
  have n2 := rt.2.2.2.2.2.1
  have es20 : b.es.length ≤ 20 := by have := rb.1; have := rt.2.1; omega
  have M255 := rt.2.2.2.2.2.2.2.1
  have LSR := rt.2.2.2.2.2.2.2.2.1
  have ok := RightP.ok rt.2.2.2.2.2.2.1
  have fl : ∀ i, i < F.R → F.L i = F.L 0 := fun i hi => (rt.2.2.2.2.2.2.1.2.2.2.2.2.2 i hi).1
  have PC := hidE fun u (bb : Below w.heap.size w u) => eplace_any u x F s (h.keep (keep_of_below bb)) uS (by omega) n1 (by omega)
  obtain ⟨bv, rv, rfl, hB, hr⟩ := h
  obtain ⟨gx, hgx⟩ : ∃ gx, gx = getF 255 F.Z (placeN F.LS s (F.L 0)) F.R := ⟨_, rfl⟩
  have gx0 : 0 ≤ gx := by rw [hgx, ← M255]; exact getF_nn ok (fun i hi => placeN_lt _ _ _ _ ok.2.2.2.2.1) (Nat.le_refl _)
  have gx1 : gx ≤ 255 := by rw [hgx]; exact (getF_le _ _ _ _).1
  have GX2 : getF F.LM F.Z (placeN F.LS s (F.L 0)) F.R = gx := by rw [M255, hgx]
  have GC : Hid (∀ u, Below w.heap.size w u → Calls Try.prog 42 #[.agg #[.int .u64 F.LS, .int .i64 F.LM, rv], .string s] u fun e w' => e = .returned (.int .i64 gx) ∧ Below u.heap.size u w') := fun u bb => by
    have e := rget_ok u (.agg #[.int .u64 F.LS, .int .i64 F.LM, rv]) F.LS F.LM F.R (F.L 0) F.Z s ⟨rv, rfl, (hr.congr fl fun _ _ _ _ => rfl).keep (keep_of_below bb)⟩ ok (by rw [LSR]; exact rowF_U _ 1) (by omega)
    rw [GX2] at e
    exact e
  obtain ⟨A, cap, bb, o, rfl, hc, h3, h4⟩ := hB
  obtain ⟨n, hn⟩ : ∃ n, n = F.bs.length := ⟨_, rfl⟩
  rw [← hn] at h3 hc n1 n2 PC hb ⊢
  obtain rfl := h3 (by omega)
  obtain ⟨p, hp⟩ : ∃ p, p = placeN F.S s n 0 := ⟨_, rfl⟩
  have pn : p < n := by rw [hp]; exact placeN_lt _ _ _ _ (by omega)
  rw [← hp] at hb PC
  have bp : (p : Int) < (n : Int) := by omega
  have bp0 : (0 : Int) ≤ (p : Int) := by omega
  obtain ⟨ev, q1, q2, hE⟩ := h4 p b hb
  have EA := hidE fun u (bb : Below w.heap.size w u) => eat_any u ev b.ag b.es s (hE.keep (keep_of_below bb)) (by omega)
  obtain ⟨A2, cp2, b2, o2, rfl, hc2, h5, h6⟩ := hE
  obtain ⟨m, hm⟩ : ∃ m, m = b.es.length := ⟨_, rfl⟩
  have RBE := hidE rb.2.2.2
  have HB := hidE hb
  rw [← hm] at q1 hc2 h5 EA es20
  have BX : Hid (Below w.heap.size w (w.alloc (.cells (elc F (.slice (some ⟨bb, o, none⟩) n cap) rv) 32))) := bel_alloc _ _
  have KX : Hid (Blk (w.alloc (.cells (elc F (.slice (some ⟨bb, o, none⟩) n cap) rv) 32)) w.heap.size 32 (elc F (.slice (some ⟨bb, o, none⟩) n cap) rv)) := Blk.new _ _ _
  have Q1 := hidE q1
  have Q2 := hidE q2
  have H5 := hidE h5
  have H6 := hidE h6
  have HM := hidE hm
  have HGX := hidE hgx
  obtain ⟨ag, hag⟩ : ∃ ag, ag = b.ag := ⟨_, rfl⟩
  rw [← hag] at EA Q2
  clear h3 h4 hr q1 q2 h5 h6 hb hm hgx hag rb rt ok fl hp M255 hn LSR GX2
  unfold elv elc at *
  go_enter Try.func16, Try.ntmps16
  go_wp2_with fail
  generalize w.alloc (.cells #[.int .u64 F.S, .int .i64 F.room, .int .i64 F.votes, .slice (some ⟨bb, o, none⟩) n cap, .int .u64 F.LS, .int .i64 F.LM, rv] 32) = X at BX KX ⊢
  cases ga : atE b.es s with
  | none =>
    rw [getE_no ga, ← HGX.out] at hg
    simp only [Prod.mk.injEq] at hg
    obtain ⟨rfl, rfl, rfl, rfl⟩ := hg
    rw [atI_none ga] at EA
    clear ga
    refine letterQ ?_
    intro QQ hQQ
    have Z0 : Hid (Below X.heap.size X X.drew) := (Below.refl _ _).drew
    refine wp_region_noPanic ?_
    refine wp_region_held_drew (S := fun w2 => Below X.heap.size X w2) (by kernel_rfl) Z0.out (fun hHeld => ?_)
    clear hHeld
    generalize X.drew = q0 at Z0 ⊢
    refine wpAnyH_take (i := 0) (v := ?_) rfl (by kernel_rfl) (by kernel_rfl) (by kernel_rfl) (fun _ _ _ h => h) (Or.inl ⟨by rfl, ?_⟩) Z0.out ?_
    rotate_left
    · intro wq hSw; go_simp; first | done | with_reducible rfl
    simp only [List.getElem_toArray, List.getElem_cons_zero, Act.put, List.setIfInBounds_toArray, List.set_cons_zero, List.set_cons_succ]
    refine wpAnyH_take (i := 1) (v := ?_) rfl (by kernel_rfl) (by kernel_rfl) (by kernel_rfl) (fun _ _ _ h => h) (Or.inl ⟨by rfl, ?_⟩) Z0.out ?_
    rotate_left
    · intro wq hSw; have cl0 := (KX.out.since hSw).cell 3; go_simp; first | done | with_reducible rfl
    simp only [List.getElem_toArray, List.getElem_cons_zero, List.getElem_cons_succ, Act.put, List.setIfInBounds_toArray, List.set_cons_zero, List.set_cons_succ]
    refine wpAnyH_take (i := 2) (v := ?_) rfl (by kernel_rfl) (by kernel_rfl) (by kernel_rfl) (fun _ _ _ h => h) (Or.inl ⟨by rfl, ?_⟩) Z0.out ?_
    rotate_left
    · intro wq hSw; have cl0 := (KX.out.since hSw).cell 0; have cl1 := (KX.out.since hSw).cell 1; have cl2 := (KX.out.since hSw).cell 2; have cl3 := (KX.out.since hSw).cell 3; have cl4 := (KX.out.since hSw).cell 4; have cl5 := (KX.out.since hSw).cell 5; have cl6 := (KX.out.since hSw).cell 6; go_simp; first | done | with_reducible rfl
    simp only [List.getElem_toArray, List.getElem_cons_zero, List.getElem_cons_succ, Act.put, List.setIfInBounds_toArray, List.set_cons_zero, List.set_cons_succ]
    refine wpAnyH_take (i := 3) (v := ?_) rfl (by kernel_rfl) (by kernel_rfl) (by kernel_rfl) (fun _ _ _ h => h) (Or.inl ⟨by rfl, ?_⟩) Z0.out ?_
    rotate_left
    · intro wq hSw; go_simp; first | done | with_reducible rfl
    simp only [List.getElem_toArray, List.getElem_cons_zero, List.getElem_cons_succ, Act.put, List.setIfInBounds_toArray, List.set_cons_zero, List.set_cons_succ]
    refine wpAnyH_ready (rs := [4, 7]) (by kernel_rfl) (by simp) ?_
    refine AllReadyH.cons rfl (fun K hK => ?_) ?_
    · refine step_func 26 #[.agg #[.int .u64 F.S, .int .i64 F.room, .int .i64 F.votes, .slice (some ⟨bb, o, none⟩) n cap, .int .u64 F.LS, .int .i64 F.LM, rv], .string s] (by rfl) rfl (by simp [Act.eval]) (fun _ _ => by kernel_rfl) ?_
      refine (PC.out _ (bel_trans BX.out Z0.out)).mono ?_
      rintro e v1 ⟨rfl, b1⟩
      have Z1 : Hid (Below X.heap.size X v1) := bel_trans Z0.out b1
      refine ⟨_, rfl, ?_⟩
      clear b1
      refine hK.out _ _ (by exact Z1.out) (fun hHeld => ?_)
      clear hK K hHeld
      simp only [Act.put, List.setIfInBounds_toArray]
      refine wpAnyH_take (i := 5) (v := ?_) rfl (by kernel_rfl) (by kernel_rfl) (by kernel_rfl) (fun _ _ _ h => h) (Or.inl ⟨by rfl, ?_⟩) Z1.out ?_
      rotate_left
      · intro wq hSw; go_simp; first | done | with_reducible rfl
      simp only [List.getElem_toArray, List.getElem_cons_zero, List.getElem_cons_succ, Act.put, List.setIfInBounds_toArray, List.set_cons_zero, List.set_cons_succ]
      refine wpAnyH_take (i := 6) (v := ?_) rfl (by kernel_rfl) (by kernel_rfl) (by kernel_rfl) (fun _ _ _ h => h) (Or.inl ⟨by rfl, ?_⟩) Z1.out ?_
      rotate_left
      · intro wq hSw; have cl0 := keep_of_below (bel_trans BX.out hSw) _ _ Q1.out; have cl1 := keep_of_below (bel_trans BX.out hSw) _ _ Q2.out; go_simp; first | done | with_reducible rfl
      simp only [List.getElem_toArray, List.getElem_cons_zero, List.getElem_cons_succ, Act.put, List.setIfInBounds_toArray, List.set_cons_zero, List.set_cons_succ]
      refine wpAnyH_ready (rs := [7]) (by kernel_rfl) (by simp) ?_
      refine AllReadyH.cons rfl (fun K hK => ?_) ?_
      rotate_left
      · exact AllReadyH.nil
      go_simp
      have Z2 : Hid (Below X.heap.size X (v1.alloc (.cells #[.slice none 0 0, .int .i64 0] 74))) := bel_trans Z1.out (bel_alloc _ _)
      have KA : Hid (Blk (v1.alloc (.cells #[.slice none 0 0, .int .i64 0] 74)) v1.heap.size 74 #[.slice none 0 0, .int .i64 0]) := Blk.new _ _ _
      have GE : Hid (X.heap.size ≤ v1.heap.size) := Z1.out.size
      generalize v1.alloc (.cells #[.slice none 0 0, .int .i64 0] 74) = v2 at Z2 KA ⊢
      generalize v1.heap.size = gb at KA GE ⊢
      refine hK.out _ _ (by exact Z2.out) (fun hHeld => ?_)
      clear hK K hHeld
      refine wpAnyH_ready (rs := [8]) (by kernel_rfl) (by simp) ?_
      refine AllReadyH.cons rfl (fun K hK => ?_) ?_
      rotate_left
      · exact AllReadyH.nil
      have f0 := KA.out.frozen 0
      have f1 := KA.out.frozen 1
      have e0 : v2.cell? ⟨gb, 0, none⟩ = some (.slice none 0 0) := KA.out.cell 0
      have e1 : v2.cell? ⟨gb, 1, none⟩ = some (.int .i64 0) := KA.out.cell 1
      go_simp
      clear f0 f1 e0 e1
      have KB : Hid (Blk ((v2.setCell ⟨gb, 0, none⟩ (.slice A2 m cp2)).setCell ⟨gb, 1, none⟩ (.int .i64 ag)) gb 74 #[.slice A2 m cp2, .int .i64 ag]) := (KA.out.set 0 _).set 1 _
      have ZB : Hid (Below X.heap.size X ((v2.setCell ⟨gb, 0, none⟩ (.slice A2 m cp2)).setCell ⟨gb, 1, none⟩ (.int .i64 ag))) := (Z2.out.setCell (p := ⟨gb, 0, none⟩) GE.out _).setCell (p := ⟨gb, 1, none⟩) GE.out _
      generalize (v2.setCell ⟨gb, 0, none⟩ (.slice A2 m cp2)).setCell ⟨gb, 1, none⟩ (.int .i64 ag) = v9 at KB ZB ⊢
      refine hK.out _ _ (by exact ZB.out) (fun hHeld => ?_)
      clear hK K hHeld
      refine wpAnyH_done (by kernel_rfl) ?_ _
      refine NoPanic.normal ?_
      have w0 : v9.cell? ⟨gb, 0, none⟩ = some (.slice A2 m cp2) := KB.out.cell 0
      have w1 : v9.cell? ⟨gb, 1, none⟩ = some (.int .i64 ag) := KB.out.cell 1
      refine hQQ.out _ _ ?_
      clear hQQ
      go_wp2_with fail
      refine (EA.out _ (bel_trans BX.out ZB.out)).mono ?_
      rintro e u2 ⟨rfl, bq2⟩
      have B2 : Hid (Below X.heap.size X u2) := bel_trans ZB.out bq2
      have KB2 : Hid (Blk u2 gb 74 #[.slice A2 m cp2, .int .i64 ag]) := KB.out.since bq2
      clear bq2 w0 w1
      have w0 : u2.cell? ⟨gb, 0, none⟩ = some (.slice A2 m cp2) := KB2.out.cell 0
      have y4 : u2.cell? ⟨w.heap.size, 4, none⟩ = some (.int .u64 F.LS) := (KX.out.since B2.out).cell 4
      have y5 : u2.cell? ⟨w.heap.size, 5, none⟩ = some (.int .i64 F.LM) := (KX.out.since B2.out).cell 5
      have y6 : u2.cell? ⟨w.heap.size, 6, none⟩ = some (rv) := (KX.out.since B2.out).cell 6
      go_wp2_with fail
      refine (GC.out _ (bel_trans BX.out B2.out)).mono ?_
      rintro e u3 ⟨rfl, b3⟩
      go_wp2_with fail
      go_returns
      exact ⟨by first | rfl | simp, bel_trans BX.out (bel_trans B2.out b3)⟩
    refine AllReadyH.cons rfl (fun K hK => ?_) ?_
    · go_simp
      have Z2 : Hid (Below X.heap.size X (q0.alloc (.cells #[.slice none 0 0, .int .i64 0] 74))) := bel_trans Z0.out (bel_alloc _ _)
      have KA : Hid (Blk (q0.alloc (.cells #[.slice none 0 0, .int .i64 0] 74)) q0.heap.size 74 #[.slice none 0 0, .int .i64 0]) := Blk.new _ _ _
      have GE : Hid (X.heap.size ≤ q0.heap.size) := Z0.out.size
      generalize q0.alloc (.cells #[.slice none 0 0, .int .i64 0] 74) = v2 at Z2 KA ⊢
      generalize q0.heap.size = gb at KA GE ⊢
      refine hK.out _ _ (by exact Z2.out) (fun hHeld => ?_)
      clear hK K hHeld
      refine wpAnyH_ready (rs := [4]) (by kernel_rfl) (by simp) ?_
      refine AllReadyH.cons rfl (fun K hK => ?_) ?_
      rotate_left
      · exact AllReadyH.nil
      refine step_func 26 #[.agg #[.int .u64 F.S, .int .i64 F.room, .int .i64 F.votes, .slice (some ⟨bb, o, none⟩) n cap, .int .u64 F.LS, .int .i64 F.LM, rv], .string s] (by rfl) rfl (by simp [Act.eval]) (fun _ _ => by kernel_rfl) ?_
      refine (PC.out _ (bel_trans BX.out Z2.out)).mono ?_
      rintro e v1 ⟨rfl, b1⟩
      have Z1 : Hid (Below X.heap.size X v1) := bel_trans Z2.out b1
      have KA1 : Hid (Blk v1 gb 74 #[.slice none 0 0, .int .i64 0]) := KA.out.since b1
      clear KA b1
      have KA := KA1
      clear KA1
      refine ⟨_, rfl, ?_⟩
      refine hK.out _ _ (by exact Z1.out) (fun hHeld => ?_)
      clear hK K hHeld
      simp only [Act.put, List.setIfInBounds_toArray]
      refine wpAnyH_take (i := 5) (v := ?_) rfl (by kernel_rfl) (by kernel_rfl) (by kernel_rfl) (fun _ _ _ h => h) (Or.inl ⟨by rfl, ?_⟩) Z1.out ?_
      rotate_left
      · intro wq hSw; go_simp; first | done | with_reducible rfl
      simp only [List.getElem_toArray, List.getElem_cons_zero, List.getElem_cons_succ, Act.put, List.setIfInBounds_toArray, List.set_cons_zero, List.set_cons_succ]
      refine wpAnyH_take (i := 6) (v := ?_) rfl (by kernel_rfl) (by kernel_rfl) (by kernel_rfl) (fun _ _ _ h => h) (Or.inl ⟨by rfl, ?_⟩) Z1.out ?_
      rotate_left
      · intro wq hSw; have cl0 := keep_of_below (bel_trans BX.out hSw) _ _ Q1.out; have cl1 := keep_of_below (bel_trans BX.out hSw) _ _ Q2.out; go_simp; first | done | with_reducible rfl
      simp only [List.getElem_toArray, List.getElem_cons_zero, List.getElem_cons_succ, Act.put, List.setIfInBounds_toArray, List.set_cons_zero, List.set_cons_succ]
      refine wpAnyH_ready (rs := [8]) (by kernel_rfl) (by simp) ?_
      refine AllReadyH.cons rfl (fun K hK => ?_) ?_
      rotate_left
      · exact AllReadyH.nil
      have f0 := KA.out.frozen 0
      have f1 := KA.out.frozen 1
      have e0 : v1.cell? ⟨gb, 0, none⟩ = some (.slice none 0 0) := KA.out.cell 0
      have e1 : v1.cell? ⟨gb, 1, none⟩ = some (.int .i64 0) := KA.out.cell 1
      go_simp
      clear f0 f1 e0 e1
      have KB : Hid (Blk ((v1.setCell ⟨gb, 0, none⟩ (.slice A2 m cp2)).setCell ⟨gb, 1, none⟩ (.int .i64 ag)) gb 74 #[.slice A2 m cp2, .int .i64 ag]) := (KA.out.set 0 _).set 1 _
      have ZB : Hid (Below X.heap.size X ((v1.setCell ⟨gb, 0, none⟩ (.slice A2 m cp2)).setCell ⟨gb, 1, none⟩ (.int .i64 ag))) := (Z1.out.setCell (p := ⟨gb, 0, none⟩) GE.out _).setCell (p := ⟨gb, 1, none⟩) GE.out _
      generalize (v1.setCell ⟨gb, 0, none⟩ (.slice A2 m cp2)).setCell ⟨gb, 1, none⟩ (.int .i64 ag) = v9 at KB ZB ⊢
      refine hK.out _ _ (by exact ZB.out) (fun hHeld => ?_)
      clear hK K hHeld
      refine wpAnyH_done (by kernel_rfl) ?_ _
      refine NoPanic.normal ?_
      have w0 : v9.cell? ⟨gb, 0, none⟩ = some (.slice A2 m cp2) := KB.out.cell 0
      have w1 : v9.cell? ⟨gb, 1, none⟩ = some (.int .i64 ag) := KB.out.cell 1
      refine hQQ.out _ _ ?_
      clear hQQ
      go_wp2_with fail
      refine (EA.out _ (bel_trans BX.out ZB.out)).mono ?_
      rintro e u2 ⟨rfl, bq2⟩
      have B2 : Hid (Below X.heap.size X u2) := bel_trans ZB.out bq2
      have KB2 : Hid (Blk u2 gb 74 #[.slice A2 m cp2, .int .i64 ag]) := KB.out.since bq2
      clear bq2 w0 w1
      have w0 : u2.cell? ⟨gb, 0, none⟩ = some (.slice A2 m cp2) := KB2.out.cell 0
      have y4 : u2.cell? ⟨w.heap.size, 4, none⟩ = some (.int .u64 F.LS) := (KX.out.since B2.out).cell 4
      have y5 : u2.cell? ⟨w.heap.size, 5, none⟩ = some (.int .i64 F.LM) := (KX.out.since B2.out).cell 5
      have y6 : u2.cell? ⟨w.heap.size, 6, none⟩ = some (rv) := (KX.out.since B2.out).cell 6
      go_wp2_with fail
      refine (GC.out _ (bel_trans BX.out B2.out)).mono ?_
      rintro e u3 ⟨rfl, b3⟩
      go_wp2_with fail
      go_returns
      exact ⟨by first | rfl | simp, bel_trans BX.out (bel_trans B2.out b3)⟩
    exact AllReadyH.nil
  | some i =>
    obtain ⟨e, e1, e2⟩ := atE_some ga
    rw [getE_at ga e1, ← HGX.out] at hg
    rw [atI_some ga] at EA
    have il : i < m := by rw [HM.out]; exact (List.getElem?_eq_some_iff.1 e1).1
    have bi : (i : Int) < (m : Int) := by omega
    have bi0 : (0 : Int) ≤ (i : Int) := by omega
    obtain ⟨_, p2, p3⟩ := H6.out i e e1
    have rr := RBE.out i e e1
    obtain ⟨t, d, f⟩ := e
    simp only at p2 p3 rr hg
    have P2 := hidE p2
    have P3 := hidE p3
    have d1 := rr.1
    have d2 := rr.2.1
    obtain rfl := H5.out (by omega)
    clear ga e1 e2 p2 p3 rr
    cases f with
    | false =>
      rw [if_pos rfl] at hg
      simp only [Prod.mk.injEq] at hg
      obtain ⟨rfl, rfl, rfl, rfl⟩ := hg
      refine letterQ ?_
      intro QQ hQQ
      have Z0 : Hid (Below X.heap.size X X.drew) := (Below.refl _ _).drew
      refine wp_region_noPanic ?_
      refine wp_region_held_drew (S := fun w2 => Below X.heap.size X w2) (by kernel_rfl) Z0.out (fun hHeld => ?_)
      clear hHeld
      generalize X.drew = q0 at Z0 ⊢
      refine wpAnyH_take (i := 0) (v := ?_) rfl (by kernel_rfl) (by kernel_rfl) (by kernel_rfl) (fun _ _ _ h => h) (Or.inl ⟨by rfl, ?_⟩) Z0.out ?_
      rotate_left
      · intro wq hSw; go_simp; first | done | with_reducible rfl
      simp only [List.getElem_toArray, List.getElem_cons_zero, Act.put, List.setIfInBounds_toArray, List.set_cons_zero, List.set_cons_succ]
      refine wpAnyH_take (i := 1) (v := ?_) rfl (by kernel_rfl) (by kernel_rfl) (by kernel_rfl) (fun _ _ _ h => h) (Or.inl ⟨by rfl, ?_⟩) Z0.out ?_
      rotate_left
      · intro wq hSw; have cl0 := (KX.out.since hSw).cell 3; go_simp; first | done | with_reducible rfl
      simp only [List.getElem_toArray, List.getElem_cons_zero, List.getElem_cons_succ, Act.put, List.setIfInBounds_toArray, List.set_cons_zero, List.set_cons_succ]
      refine wpAnyH_take (i := 2) (v := ?_) rfl (by kernel_rfl) (by kernel_rfl) (by kernel_rfl) (fun _ _ _ h => h) (Or.inl ⟨by rfl, ?_⟩) Z0.out ?_
      rotate_left
      · intro wq hSw; have cl0 := (KX.out.since hSw).cell 0; have cl1 := (KX.out.since hSw).cell 1; have cl2 := (KX.out.since hSw).cell 2; have cl3 := (KX.out.since hSw).cell 3; have cl4 := (KX.out.since hSw).cell 4; have cl5 := (KX.out.since hSw).cell 5; have cl6 := (KX.out.since hSw).cell 6; go_simp; first | done | with_reducible rfl
      simp only [List.getElem_toArray, List.getElem_cons_zero, List.getElem_cons_succ, Act.put, List.setIfInBounds_toArray, List.set_cons_zero, List.set_cons_succ]
      refine wpAnyH_take (i := 3) (v := ?_) rfl (by kernel_rfl) (by kernel_rfl) (by kernel_rfl) (fun _ _ _ h => h) (Or.inl ⟨by rfl, ?_⟩) Z0.out ?_
      rotate_left
      · intro wq hSw; go_simp; first | done | with_reducible rfl
      simp only [List.getElem_toArray, List.getElem_cons_zero, List.getElem_cons_succ, Act.put, List.setIfInBounds_toArray, List.set_cons_zero, List.set_cons_succ]
      refine wpAnyH_ready (rs := [4, 7]) (by kernel_rfl) (by simp) ?_
      refine AllReadyH.cons rfl (fun K hK => ?_) ?_
      · refine step_func 26 #[.agg #[.int .u64 F.S, .int .i64 F.room, .int .i64 F.votes, .slice (some ⟨bb, o, none⟩) n cap, .int .u64 F.LS, .int .i64 F.LM, rv], .string s] (by rfl) rfl (by simp [Act.eval]) (fun _ _ => by kernel_rfl) ?_
        refine (PC.out _ (bel_trans BX.out Z0.out)).mono ?_
        rintro e v1 ⟨rfl, b1⟩
        have Z1 : Hid (Below X.heap.size X v1) := bel_trans Z0.out b1
        refine ⟨_, rfl, ?_⟩
        clear b1
        refine hK.out _ _ (by exact Z1.out) (fun hHeld => ?_)
        clear hK K hHeld
        simp only [Act.put, List.setIfInBounds_toArray]
        refine wpAnyH_take (i := 5) (v := ?_) rfl (by kernel_rfl) (by kernel_rfl) (by kernel_rfl) (fun _ _ _ h => h) (Or.inl ⟨by rfl, ?_⟩) Z1.out ?_
        rotate_left
        · intro wq hSw; go_simp; first | done | with_reducible rfl
        simp only [List.getElem_toArray, List.getElem_cons_zero, List.getElem_cons_succ, Act.put, List.setIfInBounds_toArray, List.set_cons_zero, List.set_cons_succ]
        refine wpAnyH_take (i := 6) (v := ?_) rfl (by kernel_rfl) (by kernel_rfl) (by kernel_rfl) (fun _ _ _ h => h) (Or.inl ⟨by rfl, ?_⟩) Z1.out ?_
        rotate_left
        · intro wq hSw; have cl0 := keep_of_below (bel_trans BX.out hSw) _ _ Q1.out; have cl1 := keep_of_below (bel_trans BX.out hSw) _ _ Q2.out; go_simp; first | done | with_reducible rfl
        simp only [List.getElem_toArray, List.getElem_cons_zero, List.getElem_cons_succ, Act.put, List.setIfInBounds_toArray, List.set_cons_zero, List.set_cons_succ]
        refine wpAnyH_ready (rs := [7]) (by kernel_rfl) (by simp) ?_
        refine AllReadyH.cons rfl (fun K hK => ?_) ?_
        rotate_left
        · exact AllReadyH.nil
        go_simp
        have Z2 : Hid (Below X.heap.size X (v1.alloc (.cells #[.slice none 0 0, .int .i64 0] 74))) := bel_trans Z1.out (bel_alloc _ _)
        have KA : Hid (Blk (v1.alloc (.cells #[.slice none 0 0, .int .i64 0] 74)) v1.heap.size 74 #[.slice none 0 0, .int .i64 0]) := Blk.new _ _ _
        have GE : Hid (X.heap.size ≤ v1.heap.size) := Z1.out.size
        generalize v1.alloc (.cells #[.slice none 0 0, .int .i64 0] 74) = v2 at Z2 KA ⊢
        generalize v1.heap.size = gb at KA GE ⊢
        refine hK.out _ _ (by exact Z2.out) (fun hHeld => ?_)
        clear hK K hHeld
        refine wpAnyH_ready (rs := [8]) (by kernel_rfl) (by simp) ?_
        refine AllReadyH.cons rfl (fun K hK => ?_) ?_
        rotate_left
        · exact AllReadyH.nil
        have f0 := KA.out.frozen 0
        have f1 := KA.out.frozen 1
        have e0 : v2.cell? ⟨gb, 0, none⟩ = some (.slice none 0 0) := KA.out.cell 0
        have e1 : v2.cell? ⟨gb, 1, none⟩ = some (.int .i64 0) := KA.out.cell 1
        go_simp
        clear f0 f1 e0 e1
        have KB : Hid (Blk ((v2.setCell ⟨gb, 0, none⟩ (.slice (some ⟨b2, o2, none⟩) m cp2)).setCell ⟨gb, 1, none⟩ (.int .i64 ag)) gb 74 #[.slice (some ⟨b2, o2, none⟩) m cp2, .int .i64 ag]) := (KA.out.set 0 _).set 1 _
        have ZB : Hid (Below X.heap.size X ((v2.setCell ⟨gb, 0, none⟩ (.slice (some ⟨b2, o2, none⟩) m cp2)).setCell ⟨gb, 1, none⟩ (.int .i64 ag))) := (Z2.out.setCell (p := ⟨gb, 0, none⟩) GE.out _).setCell (p := ⟨gb, 1, none⟩) GE.out _
        generalize (v2.setCell ⟨gb, 0, none⟩ (.slice (some ⟨b2, o2, none⟩) m cp2)).setCell ⟨gb, 1, none⟩ (.int .i64 ag) = v9 at KB ZB ⊢
        refine hK.out _ _ (by exact ZB.out) (fun hHeld => ?_)
        clear hK K hHeld
        refine wpAnyH_done (by kernel_rfl) ?_ _
        refine NoPanic.normal ?_
        have w0 : v9.cell? ⟨gb, 0, none⟩ = some (.slice (some ⟨b2, o2, none⟩) m cp2) := KB.out.cell 0
        have w1 : v9.cell? ⟨gb, 1, none⟩ = some (.int .i64 ag) := KB.out.cell 1
        refine hQQ.out _ _ ?_
        clear hQQ
        go_wp2_with fail
        refine (EA.out _ (bel_trans BX.out ZB.out)).mono ?_
        rintro e u2 ⟨rfl, bq2⟩
        have B2 : Hid (Below X.heap.size X u2) := bel_trans ZB.out bq2
        have KB2 : Hid (Blk u2 gb 74 #[.slice (some ⟨b2, o2, none⟩) m cp2, .int .i64 ag]) := KB.out.since bq2
        clear bq2 w0 w1
        have w0 : u2.cell? ⟨gb, 0, none⟩ = some (.slice (some ⟨b2, o2, none⟩) m cp2) := KB2.out.cell 0
        have y4 : u2.cell? ⟨w.heap.size, 4, none⟩ = some (.int .u64 F.LS) := (KX.out.since B2.out).cell 4
        have y5 : u2.cell? ⟨w.heap.size, 5, none⟩ = some (.int .i64 F.LM) := (KX.out.since B2.out).cell 5
        have y6 : u2.cell? ⟨w.heap.size, 6, none⟩ = some (rv) := (KX.out.since B2.out).cell 6
        have p2 := keep_of_below (bel_trans BX.out B2.out) _ _ P2.out
        have p3 := keep_of_below (bel_trans BX.out B2.out) _ _ P3.out
        go_wp2_with fail
        go_returns
        exact ⟨by first | rfl | simp, bel_trans BX.out B2.out⟩
      refine AllReadyH.cons rfl (fun K hK => ?_) ?_
      · go_simp
        have Z2 : Hid (Below X.heap.size X (q0.alloc (.cells #[.slice none 0 0, .int .i64 0] 74))) := bel_trans Z0.out (bel_alloc _ _)
        have KA : Hid (Blk (q0.alloc (.cells #[.slice none 0 0, .int .i64 0] 74)) q0.heap.size 74 #[.slice none 0 0, .int .i64 0]) := Blk.new _ _ _
        have GE : Hid (X.heap.size ≤ q0.heap.size) := Z0.out.size
        generalize q0.alloc (.cells #[.slice none 0 0, .int .i64 0] 74) = v2 at Z2 KA ⊢
        generalize q0.heap.size = gb at KA GE ⊢
        refine hK.out _ _ (by exact Z2.out) (fun hHeld => ?_)
        clear hK K hHeld
        refine wpAnyH_ready (rs := [4]) (by kernel_rfl) (by simp) ?_
        refine AllReadyH.cons rfl (fun K hK => ?_) ?_
        rotate_left
        · exact AllReadyH.nil
        refine step_func 26 #[.agg #[.int .u64 F.S, .int .i64 F.room, .int .i64 F.votes, .slice (some ⟨bb, o, none⟩) n cap, .int .u64 F.LS, .int .i64 F.LM, rv], .string s] (by rfl) rfl (by simp [Act.eval]) (fun _ _ => by kernel_rfl) ?_
        refine (PC.out _ (bel_trans BX.out Z2.out)).mono ?_
        rintro e v1 ⟨rfl, b1⟩
        have Z1 : Hid (Below X.heap.size X v1) := bel_trans Z2.out b1
        have KA1 : Hid (Blk v1 gb 74 #[.slice none 0 0, .int .i64 0]) := KA.out.since b1
        clear KA b1
        have KA := KA1
        clear KA1
        refine ⟨_, rfl, ?_⟩
        refine hK.out _ _ (by exact Z1.out) (fun hHeld => ?_)
        clear hK K hHeld
        simp only [Act.put, List.setIfInBounds_toArray]
        refine wpAnyH_take (i := 5) (v := ?_) rfl (by kernel_rfl) (by kernel_rfl) (by kernel_rfl) (fun _ _ _ h => h) (Or.inl ⟨by rfl, ?_⟩) Z1.out ?_
        rotate_left
        · intro wq hSw; go_simp; first | done | with_reducible rfl
        simp only [List.getElem_toArray, List.getElem_cons_zero, List.getElem_cons_succ, Act.put, List.setIfInBounds_toArray, List.set_cons_zero, List.set_cons_succ]
        refine wpAnyH_take (i := 6) (v := ?_) rfl (by kernel_rfl) (by kernel_rfl) (by kernel_rfl) (fun _ _ _ h => h) (Or.inl ⟨by rfl, ?_⟩) Z1.out ?_
        rotate_left
        · intro wq hSw; have cl0 := keep_of_below (bel_trans BX.out hSw) _ _ Q1.out; have cl1 := keep_of_below (bel_trans BX.out hSw) _ _ Q2.out; go_simp; first | done | with_reducible rfl
        simp only [List.getElem_toArray, List.getElem_cons_zero, List.getElem_cons_succ, Act.put, List.setIfInBounds_toArray, List.set_cons_zero, List.set_cons_succ]
        refine wpAnyH_ready (rs := [8]) (by kernel_rfl) (by simp) ?_
        refine AllReadyH.cons rfl (fun K hK => ?_) ?_
        rotate_left
        · exact AllReadyH.nil
        have f0 := KA.out.frozen 0
        have f1 := KA.out.frozen 1
        have e0 : v1.cell? ⟨gb, 0, none⟩ = some (.slice none 0 0) := KA.out.cell 0
        have e1 : v1.cell? ⟨gb, 1, none⟩ = some (.int .i64 0) := KA.out.cell 1
        go_simp
        clear f0 f1 e0 e1
        have KB : Hid (Blk ((v1.setCell ⟨gb, 0, none⟩ (.slice (some ⟨b2, o2, none⟩) m cp2)).setCell ⟨gb, 1, none⟩ (.int .i64 ag)) gb 74 #[.slice (some ⟨b2, o2, none⟩) m cp2, .int .i64 ag]) := (KA.out.set 0 _).set 1 _
        have ZB : Hid (Below X.heap.size X ((v1.setCell ⟨gb, 0, none⟩ (.slice (some ⟨b2, o2, none⟩) m cp2)).setCell ⟨gb, 1, none⟩ (.int .i64 ag))) := (Z1.out.setCell (p := ⟨gb, 0, none⟩) GE.out _).setCell (p := ⟨gb, 1, none⟩) GE.out _
        generalize (v1.setCell ⟨gb, 0, none⟩ (.slice (some ⟨b2, o2, none⟩) m cp2)).setCell ⟨gb, 1, none⟩ (.int .i64 ag) = v9 at KB ZB ⊢
        refine hK.out _ _ (by exact ZB.out) (fun hHeld => ?_)
        clear hK K hHeld
        refine wpAnyH_done (by kernel_rfl) ?_ _
        refine NoPanic.normal ?_
        have w0 : v9.cell? ⟨gb, 0, none⟩ = some (.slice (some ⟨b2, o2, none⟩) m cp2) := KB.out.cell 0
        have w1 : v9.cell? ⟨gb, 1, none⟩ = some (.int .i64 ag) := KB.out.cell 1
        refine hQQ.out _ _ ?_
        clear hQQ
        go_wp2_with fail
        refine (EA.out _ (bel_trans BX.out ZB.out)).mono ?_
        rintro e u2 ⟨rfl, bq2⟩
        have B2 : Hid (Below X.heap.size X u2) := bel_trans ZB.out bq2
        have KB2 : Hid (Blk u2 gb 74 #[.slice (some ⟨b2, o2, none⟩) m cp2, .int .i64 ag]) := KB.out.since bq2
        clear bq2 w0 w1
        have w0 : u2.cell? ⟨gb, 0, none⟩ = some (.slice (some ⟨b2, o2, none⟩) m cp2) := KB2.out.cell 0
        have y4 : u2.cell? ⟨w.heap.size, 4, none⟩ = some (.int .u64 F.LS) := (KX.out.since B2.out).cell 4
        have y5 : u2.cell? ⟨w.heap.size, 5, none⟩ = some (.int .i64 F.LM) := (KX.out.since B2.out).cell 5
        have y6 : u2.cell? ⟨w.heap.size, 6, none⟩ = some (rv) := (KX.out.since B2.out).cell 6
        have p2 := keep_of_below (bel_trans BX.out B2.out) _ _ P2.out
        have p3 := keep_of_below (bel_trans BX.out B2.out) _ _ P3.out
        go_wp2_with fail
        go_returns
        exact ⟨by first | rfl | simp, bel_trans BX.out B2.out⟩
      exact AllReadyH.nil
    | true =>
      rw [if_neg (by simp)] at hg
      simp only [Prod.mk.injEq] at hg
      obtain ⟨rfl, rfl, rfl, rfl⟩ := hg
      refine letterQ ?_
      intro QQ hQQ
      have Z0 : Hid (Below X.heap.size X X.drew) := (Below.refl _ _).drew
      refine wp_region_noPanic ?_
      refine wp_region_held_drew (S := fun w2 => Below X.heap.size X w2) (by kernel_rfl) Z0.out (fun hHeld => ?_)
      clear hHeld
      generalize X.drew = q0 at Z0 ⊢
      refine wpAnyH_take (i := 0) (v := ?_) rfl (by kernel_rfl) (by kernel_rfl) (by kernel_rfl) (fun _ _ _ h => h) (Or.inl ⟨by rfl, ?_⟩) Z0.out ?_
      rotate_left
      · intro wq hSw; go_simp; first | done | with_reducible rfl
      simp only [List.getElem_toArray, List.getElem_cons_zero, Act.put, List.setIfInBounds_toArray, List.set_cons_zero, List.set_cons_succ]
      refine wpAnyH_take (i := 1) (v := ?_) rfl (by kernel_rfl) (by kernel_rfl) (by kernel_rfl) (fun _ _ _ h => h) (Or.inl ⟨by rfl, ?_⟩) Z0.out ?_
      rotate_left
      · intro wq hSw; have cl0 := (KX.out.since hSw).cell 3; go_simp; first | done | with_reducible rfl
      simp only [List.getElem_toArray, List.getElem_cons_zero, List.getElem_cons_succ, Act.put, List.setIfInBounds_toArray, List.set_cons_zero, List.set_cons_succ]
      refine wpAnyH_take (i := 2) (v := ?_) rfl (by kernel_rfl) (by kernel_rfl) (by kernel_rfl) (fun _ _ _ h => h) (Or.inl ⟨by rfl, ?_⟩) Z0.out ?_
      rotate_left
      · intro wq hSw; have cl0 := (KX.out.since hSw).cell 0; have cl1 := (KX.out.since hSw).cell 1; have cl2 := (KX.out.since hSw).cell 2; have cl3 := (KX.out.since hSw).cell 3; have cl4 := (KX.out.since hSw).cell 4; have cl5 := (KX.out.since hSw).cell 5; have cl6 := (KX.out.since hSw).cell 6; go_simp; first | done | with_reducible rfl
      simp only [List.getElem_toArray, List.getElem_cons_zero, List.getElem_cons_succ, Act.put, List.setIfInBounds_toArray, List.set_cons_zero, List.set_cons_succ]
      refine wpAnyH_take (i := 3) (v := ?_) rfl (by kernel_rfl) (by kernel_rfl) (by kernel_rfl) (fun _ _ _ h => h) (Or.inl ⟨by rfl, ?_⟩) Z0.out ?_
      rotate_left
      · intro wq hSw; go_simp; first | done | with_reducible rfl
      simp only [List.getElem_toArray, List.getElem_cons_zero, List.getElem_cons_succ, Act.put, List.setIfInBounds_toArray, List.set_cons_zero, List.set_cons_succ]
      refine wpAnyH_ready (rs := [4, 7]) (by kernel_rfl) (by simp) ?_
      refine AllReadyH.cons rfl (fun K hK => ?_) ?_
      · refine step_func 26 #[.agg #[.int .u64 F.S, .int .i64 F.room, .int .i64 F.votes, .slice (some ⟨bb, o, none⟩) n cap, .int .u64 F.LS, .int .i64 F.LM, rv], .string s] (by rfl) rfl (by simp [Act.eval]) (fun _ _ => by kernel_rfl) ?_
        refine (PC.out _ (bel_trans BX.out Z0.out)).mono ?_
        rintro e v1 ⟨rfl, b1⟩
        have Z1 : Hid (Below X.heap.size X v1) := bel_trans Z0.out b1
        refine ⟨_, rfl, ?_⟩
        clear b1
        refine hK.out _ _ (by exact Z1.out) (fun hHeld => ?_)
        clear hK K hHeld
        simp only [Act.put, List.setIfInBounds_toArray]
        refine wpAnyH_take (i := 5) (v := ?_) rfl (by kernel_rfl) (by kernel_rfl) (by kernel_rfl) (fun _ _ _ h => h) (Or.inl ⟨by rfl, ?_⟩) Z1.out ?_
        rotate_left
        · intro wq hSw; go_simp; first | done | with_reducible rfl
        simp only [List.getElem_toArray, List.getElem_cons_zero, List.getElem_cons_succ, Act.put, List.setIfInBounds_toArray, List.set_cons_zero, List.set_cons_succ]
        refine wpAnyH_take (i := 6) (v := ?_) rfl (by kernel_rfl) (by kernel_rfl) (by kernel_rfl) (fun _ _ _ h => h) (Or.inl ⟨by rfl, ?_⟩) Z1.out ?_
        rotate_left
        · intro wq hSw; have cl0 := keep_of_below (bel_trans BX.out hSw) _ _ Q1.out; have cl1 := keep_of_below (bel_trans BX.out hSw) _ _ Q2.out; go_simp; first | done | with_reducible rfl
        simp only [List.getElem_toArray, List.getElem_cons_zero, List.getElem_cons_succ, Act.put, List.setIfInBounds_toArray, List.set_cons_zero, List.set_cons_succ]
        refine wpAnyH_ready (rs := [7]) (by kernel_rfl) (by simp) ?_
        refine AllReadyH.cons rfl (fun K hK => ?_) ?_
        rotate_left
        · exact AllReadyH.nil
        go_simp
        have Z2 : Hid (Below X.heap.size X (v1.alloc (.cells #[.slice none 0 0, .int .i64 0] 74))) := bel_trans Z1.out (bel_alloc _ _)
        have KA : Hid (Blk (v1.alloc (.cells #[.slice none 0 0, .int .i64 0] 74)) v1.heap.size 74 #[.slice none 0 0, .int .i64 0]) := Blk.new _ _ _
        have GE : Hid (X.heap.size ≤ v1.heap.size) := Z1.out.size
        generalize v1.alloc (.cells #[.slice none 0 0, .int .i64 0] 74) = v2 at Z2 KA ⊢
        generalize v1.heap.size = gb at KA GE ⊢
        refine hK.out _ _ (by exact Z2.out) (fun hHeld => ?_)
        clear hK K hHeld
        refine wpAnyH_ready (rs := [8]) (by kernel_rfl) (by simp) ?_
        refine AllReadyH.cons rfl (fun K hK => ?_) ?_
        rotate_left
        · exact AllReadyH.nil
        have f0 := KA.out.frozen 0
        have f1 := KA.out.frozen 1
        have e0 : v2.cell? ⟨gb, 0, none⟩ = some (.slice none 0 0) := KA.out.cell 0
        have e1 : v2.cell? ⟨gb, 1, none⟩ = some (.int .i64 0) := KA.out.cell 1
        go_simp
        clear f0 f1 e0 e1
        have KB : Hid (Blk ((v2.setCell ⟨gb, 0, none⟩ (.slice (some ⟨b2, o2, none⟩) m cp2)).setCell ⟨gb, 1, none⟩ (.int .i64 ag)) gb 74 #[.slice (some ⟨b2, o2, none⟩) m cp2, .int .i64 ag]) := (KA.out.set 0 _).set 1 _
        have ZB : Hid (Below X.heap.size X ((v2.setCell ⟨gb, 0, none⟩ (.slice (some ⟨b2, o2, none⟩) m cp2)).setCell ⟨gb, 1, none⟩ (.int .i64 ag))) := (Z2.out.setCell (p := ⟨gb, 0, none⟩) GE.out _).setCell (p := ⟨gb, 1, none⟩) GE.out _
        generalize (v2.setCell ⟨gb, 0, none⟩ (.slice (some ⟨b2, o2, none⟩) m cp2)).setCell ⟨gb, 1, none⟩ (.int .i64 ag) = v9 at KB ZB ⊢
        refine hK.out _ _ (by exact ZB.out) (fun hHeld => ?_)
        clear hK K hHeld
        refine wpAnyH_done (by kernel_rfl) ?_ _
        refine NoPanic.normal ?_
        have w0 : v9.cell? ⟨gb, 0, none⟩ = some (.slice (some ⟨b2, o2, none⟩) m cp2) := KB.out.cell 0
        have w1 : v9.cell? ⟨gb, 1, none⟩ = some (.int .i64 ag) := KB.out.cell 1
        refine hQQ.out _ _ ?_
        clear hQQ
        go_wp2_with fail
        refine (EA.out _ (bel_trans BX.out ZB.out)).mono ?_
        rintro e u2 ⟨rfl, bq2⟩
        have B2 : Hid (Below X.heap.size X u2) := bel_trans ZB.out bq2
        have KB2 : Hid (Blk u2 gb 74 #[.slice (some ⟨b2, o2, none⟩) m cp2, .int .i64 ag]) := KB.out.since bq2
        clear bq2 w0 w1
        have w0 : u2.cell? ⟨gb, 0, none⟩ = some (.slice (some ⟨b2, o2, none⟩) m cp2) := KB2.out.cell 0
        have y4 : u2.cell? ⟨w.heap.size, 4, none⟩ = some (.int .u64 F.LS) := (KX.out.since B2.out).cell 4
        have y5 : u2.cell? ⟨w.heap.size, 5, none⟩ = some (.int .i64 F.LM) := (KX.out.since B2.out).cell 5
        have y6 : u2.cell? ⟨w.heap.size, 6, none⟩ = some (rv) := (KX.out.since B2.out).cell 6
        have p2 := keep_of_below (bel_trans BX.out B2.out) _ _ P2.out
        have p3 := keep_of_below (bel_trans BX.out B2.out) _ _ P3.out
        go_wp2_with fail
        refine (GC.out _ (bel_trans BX.out B2.out)).mono ?_
        rintro e u3 ⟨rfl, b3⟩
        go_wp2_with fail
        go_returns
        exact ⟨by first | rfl | simp, bel_trans BX.out (bel_trans B2.out b3)⟩
      refine AllReadyH.cons rfl (fun K hK => ?_) ?_
      · go_simp
        have Z2 : Hid (Below X.heap.size X (q0.alloc (.cells #[.slice none 0 0, .int .i64 0] 74))) := bel_trans Z0.out (bel_alloc _ _)
        have KA : Hid (Blk (q0.alloc (.cells #[.slice none 0 0, .int .i64 0] 74)) q0.heap.size 74 #[.slice none 0 0, .int .i64 0]) := Blk.new _ _ _
        have GE : Hid (X.heap.size ≤ q0.heap.size) := Z0.out.size
        generalize q0.alloc (.cells #[.slice none 0 0, .int .i64 0] 74) = v2 at Z2 KA ⊢
        generalize q0.heap.size = gb at KA GE ⊢
        refine hK.out _ _ (by exact Z2.out) (fun hHeld => ?_)
        clear hK K hHeld
        refine wpAnyH_ready (rs := [4]) (by kernel_rfl) (by simp) ?_
        refine AllReadyH.cons rfl (fun K hK => ?_) ?_
        rotate_left
        · exact AllReadyH.nil
        refine step_func 26 #[.agg #[.int .u64 F.S, .int .i64 F.room, .int .i64 F.votes, .slice (some ⟨bb, o, none⟩) n cap, .int .u64 F.LS, .int .i64 F.LM, rv], .string s] (by rfl) rfl (by simp [Act.eval]) (fun _ _ => by kernel_rfl) ?_
        refine (PC.out _ (bel_trans BX.out Z2.out)).mono ?_
        rintro e v1 ⟨rfl, b1⟩
        have Z1 : Hid (Below X.heap.size X v1) := bel_trans Z2.out b1
        have KA1 : Hid (Blk v1 gb 74 #[.slice none 0 0, .int .i64 0]) := KA.out.since b1
        clear KA b1
        have KA := KA1
        clear KA1
        refine ⟨_, rfl, ?_⟩
        refine hK.out _ _ (by exact Z1.out) (fun hHeld => ?_)
        clear hK K hHeld
        simp only [Act.put, List.setIfInBounds_toArray]
        refine wpAnyH_take (i := 5) (v := ?_) rfl (by kernel_rfl) (by kernel_rfl) (by kernel_rfl) (fun _ _ _ h => h) (Or.inl ⟨by rfl, ?_⟩) Z1.out ?_
        rotate_left
        · intro wq hSw; go_simp; first | done | with_reducible rfl
        simp only [List.getElem_toArray, List.getElem_cons_zero, List.getElem_cons_succ, Act.put, List.setIfInBounds_toArray, List.set_cons_zero, List.set_cons_succ]
        refine wpAnyH_take (i := 6) (v := ?_) rfl (by kernel_rfl) (by kernel_rfl) (by kernel_rfl) (fun _ _ _ h => h) (Or.inl ⟨by rfl, ?_⟩) Z1.out ?_
        rotate_left
        · intro wq hSw; have cl0 := keep_of_below (bel_trans BX.out hSw) _ _ Q1.out; have cl1 := keep_of_below (bel_trans BX.out hSw) _ _ Q2.out; go_simp; first | done | with_reducible rfl
        simp only [List.getElem_toArray, List.getElem_cons_zero, List.getElem_cons_succ, Act.put, List.setIfInBounds_toArray, List.set_cons_zero, List.set_cons_succ]
        refine wpAnyH_ready (rs := [8]) (by kernel_rfl) (by simp) ?_
        refine AllReadyH.cons rfl (fun K hK => ?_) ?_
        rotate_left
        · exact AllReadyH.nil
        have f0 := KA.out.frozen 0
        have f1 := KA.out.frozen 1
        have e0 : v1.cell? ⟨gb, 0, none⟩ = some (.slice none 0 0) := KA.out.cell 0
        have e1 : v1.cell? ⟨gb, 1, none⟩ = some (.int .i64 0) := KA.out.cell 1
        go_simp
        clear f0 f1 e0 e1
        have KB : Hid (Blk ((v1.setCell ⟨gb, 0, none⟩ (.slice (some ⟨b2, o2, none⟩) m cp2)).setCell ⟨gb, 1, none⟩ (.int .i64 ag)) gb 74 #[.slice (some ⟨b2, o2, none⟩) m cp2, .int .i64 ag]) := (KA.out.set 0 _).set 1 _
        have ZB : Hid (Below X.heap.size X ((v1.setCell ⟨gb, 0, none⟩ (.slice (some ⟨b2, o2, none⟩) m cp2)).setCell ⟨gb, 1, none⟩ (.int .i64 ag))) := (Z1.out.setCell (p := ⟨gb, 0, none⟩) GE.out _).setCell (p := ⟨gb, 1, none⟩) GE.out _
        generalize (v1.setCell ⟨gb, 0, none⟩ (.slice (some ⟨b2, o2, none⟩) m cp2)).setCell ⟨gb, 1, none⟩ (.int .i64 ag) = v9 at KB ZB ⊢
        refine hK.out _ _ (by exact ZB.out) (fun hHeld => ?_)
        clear hK K hHeld
        refine wpAnyH_done (by kernel_rfl) ?_ _
        refine NoPanic.normal ?_
        have w0 : v9.cell? ⟨gb, 0, none⟩ = some (.slice (some ⟨b2, o2, none⟩) m cp2) := KB.out.cell 0
        have w1 : v9.cell? ⟨gb, 1, none⟩ = some (.int .i64 ag) := KB.out.cell 1
        refine hQQ.out _ _ ?_
        clear hQQ
        go_wp2_with fail
        refine (EA.out _ (bel_trans BX.out ZB.out)).mono ?_
        rintro e u2 ⟨rfl, bq2⟩
        have B2 : Hid (Below X.heap.size X u2) := bel_trans ZB.out bq2
        have KB2 : Hid (Blk u2 gb 74 #[.slice (some ⟨b2, o2, none⟩) m cp2, .int .i64 ag]) := KB.out.since bq2
        clear bq2 w0 w1
        have w0 : u2.cell? ⟨gb, 0, none⟩ = some (.slice (some ⟨b2, o2, none⟩) m cp2) := KB2.out.cell 0
        have y4 : u2.cell? ⟨w.heap.size, 4, none⟩ = some (.int .u64 F.LS) := (KX.out.since B2.out).cell 4
        have y5 : u2.cell? ⟨w.heap.size, 5, none⟩ = some (.int .i64 F.LM) := (KX.out.since B2.out).cell 5
        have y6 : u2.cell? ⟨w.heap.size, 6, none⟩ = some (rv) := (KX.out.since B2.out).cell 6
        have p2 := keep_of_below (bel_trans BX.out B2.out) _ _ P2.out
        have p3 := keep_of_below (bel_trans BX.out B2.out) _ _ P3.out
        go_wp2_with fail
        refine (GC.out _ (bel_trans BX.out B2.out)).mono ?_
        rintro e u3 ⟨rfl, b3⟩
        go_wp2_with fail
        go_returns
        exact ⟨by first | rfl | simp, bel_trans BX.out (bel_trans B2.out b3)⟩
      exact AllReadyH.nil
end Go.Proofs.Ytihealembikkiaa
namespace Go.Proofs.Ytihealembikkiaa
open Go.RowKit Hv L14 Go.Deep
set_option linter.unusedVariables false
set_option maxRecDepth 20000
set_option linter.unusedSimpArgs false

theorem alikeE_upto {l m : List Itm} (hn : l.length = m.length) (h : ∀ (i : Nat) (x y : Itm), l[i]? = some x → m[i]? = some y → x = y) : l = m := by
  apply List.ext_getElem? fun i => ?_
  by_cases hi : i < l.length
  · rw [List.getElem?_eq_getElem hi, List.getElem?_eq_getElem (by omega)]
    exact congrArg some (h i _ _ (List.getElem?_eq_getElem hi) (List.getElem?_eq_getElem (by omega)))
  · rw [List.getElem?_eq_none (by omega), List.getElem?_eq_none (by omega)]
set_option maxHeartbeats 3200000 in
theorem eitems_any (w : World) (v v' : Value) (l l' : List Itm) (h : ItsL w v l) (h' : ItsL w v' l') (hl : l.length ≤ 100000) (hl' : l'.length ≤ 100000) :
    Calls Try.prog 17 #[v, v'] w (TellsB w (l = l')) := by
  obtain ⟨A', cap', b', o', rfl, hc', h3', h4'⟩ := h'
  have Y3 : Hid (0 < l'.length → A' = some ⟨b', o', none⟩) := h3'
  have Y4 : Hid (∀ i x, l'[i]? = some x → w.cell? ⟨b', o' + i * 2, none⟩ = some (.string x.k) ∧ w.cell? ⟨b', o' + i * 2 + 1, none⟩ = some (.int .i64 x.c)) := h4'
  obtain ⟨n', hn'⟩ : ∃ n', n' = l'.length := ⟨_, rfl⟩
  have HN' : Hid (n' = l'.length) := hn'
  rw [← hn'] at hc' hl' ⊢
  clear h3' h4' hn'
  obtain ⟨A, cap, b, o, rfl, hc, h3, h4⟩ := h
  have H3 : Hid (0 < l.length → A = some ⟨b, o, none⟩) := h3
  have H4 : Hid (∀ i x, l[i]? = some x → w.cell? ⟨b, o + i * 2, none⟩ = some (.string x.k) ∧ w.cell? ⟨b, o + i * 2 + 1, none⟩ = some (.int .i64 x.c)) := h4
  obtain ⟨n, hn⟩ : ∃ n, n = l.length := ⟨_, rfl⟩
  have HN : Hid (n = l.length) := hn
  rw [← hn] at hc hl ⊢
  clear h3 h4 hn
  by_cases c1 : n = n'
  rotate_left
  · have e1 : ((n : Int) != (n' : Int)) = true := by simp; omega
    have HE : Hid (n ≠ n') := c1
    clear c1
    go_enter Try.func17, Try.ntmps17
    go_wp2_with fail
    go_ret
    exact ⟨false, rfl, ⟨fun h => (by cases h), fun h => absurd (by rw [HN.out, HN'.out, h]) HE.out⟩, Below.refl _ _⟩
  subst c1
  go_enter Try.func17, Try.ntmps17
  go_wp2_with fail
  go_loopg [13] n (fun gk i wr => ∃ k : Nat, (gk = n - k ∧ k ≤ n ∧ (∀ i x y, i < k → l[i]? = some x → l'[i]? = some y → x = y) ∧ Below w.heap.size w wr) ∧ i = .int .i64 (k : Int))
  case atStart => exact ⟨0, ⟨rfl, by omega, fun r x y hr => by omega, Below.refl _ _⟩, rfl⟩
  case round =>
    obtain ⟨k, ⟨hg, hk, hP, hB⟩, rfl⟩ := hrel
    have HK : Hid (gk = n - k ∧ (∀ i x y, i < k → l[i]? = some x → l'[i]? = some y → x = y) ∧ Below w.heap.size w wr) := ⟨hg, hP, hB⟩
    by_cases hz : k < n
    · obtain rfl := H3.out (by rw [← HN.out]; omega)
      obtain rfl := Y3.out (by rw [← HN'.out]; omega)
      obtain ⟨x, hx⟩ : ∃ x, l[k]? = some x := ⟨_, List.getElem?_eq_getElem (by rw [← HN.out]; exact hz)⟩
      obtain ⟨y, hy⟩ : ∃ y, l'[k]? = some y := ⟨_, List.getElem?_eq_getElem (by rw [← HN'.out]; exact hz)⟩
      have p1 := (H4.out k _ hx).1
      have p2 := (H4.out k _ hx).2
      have q1 := (Y4.out k _ hy).1
      have q2 := (Y4.out k _ hy).2
      obtain ⟨s, c⟩ := x
      obtain ⟨t, d⟩ := y
      simp only at p1 p2 q1 q2
      have p1 := keep_of_below hB _ _ p1
      have p2 := keep_of_below hB _ _ p2
      have q1 := keep_of_below hB _ _ q1
      have q2 := keep_of_below hB _ _ q2
      have HX : Hid (l[k]? = some ⟨s, c⟩ ∧ l'[k]? = some ⟨t, d⟩) := ⟨hx, hy⟩
      have bk : (k : Int) < (n : Int) := by omega
      have bk0 : (0 : Int) ≤ (k : Int) := by omega
      clear hx hy hg hP hB
      by_cases e : s = t
      rotate_left
      · have q : (s.toList == t.toList) = false := by rw [str_eq, decide_eq_false e]
        have q2 : (s.toList != t.toList) = true := by simp [bne, q]
        have HE : Hid (s ≠ t) := e
        clear e
        go_wp2_with fail
        go_quiet (fail)
        go_wp2_with fail
        go_ret
        exact ⟨false, rfl, ⟨fun h => (by cases h), fun h => absurd (by have e := HX.out.1.symm.trans ((by rw [h] : l[k]? = l'[k]?).trans HX.out.2); cases e; rfl) HE.out⟩, below_drewN HK.out.2.2 nq⟩
      subst e
      have q : (s.toList == s.toList) = true := by simp
      have q2 : (s.toList != s.toList) = false := by simp
      have HE : Hid (s = s) := rfl
      by_cases e3 : c = d
      rotate_left
      · have e4 : (c != d) = true := by simpa using e3
        have e5 : (c == d) = false := by simpa using e3
        have e6 : decide (c = d) = false := decide_eq_false e3
        have HE3 : Hid (c ≠ d) := e3
        clear e3
        go_wp2_with fail
        go_quiet (fail)
        go_wp2_with fail
        go_ret
        exact ⟨false, rfl, ⟨fun h => (by cases h), fun h => absurd (by have e := HX.out.1.symm.trans ((by rw [h] : l[k]? = l'[k]?).trans HX.out.2); cases e; rfl) HE3.out⟩, below_drewN HK.out.2.2 nq⟩
      subst e3
      have e4 : (c != c) = false := by simp
      have HE3 : Hid (c = c) := rfl
      go_wp2_with fail
      go_quiet (fail)
      go_wp2_with fail
      go_roundg (n - (k + 1))
      case measure => have := HK.out.1; omega
      case rel =>
        refine ⟨k + 1, ⟨rfl, by omega, fun i x y hi hx hy => ?_, below_drewN HK.out.2.2 nq⟩, by go_num⟩
        by_cases ei : i = k
        · subst ei
          have a1 := HX.out.1.symm.trans hx
          have a2 := HX.out.2.symm.trans hy
          cases a1
          cases a2
          rfl
        · exact HK.out.2.1 i x y (by omega) hx hy
    · have bk : ¬ (k : Int) < (n : Int) := by omega
      have HE : Hid (l = l') := alikeE_upto (by rw [← HN.out, ← HN'.out]) fun i x y hx hy => HK.out.2.1 i x y (by have := (List.getElem?_eq_some_iff.1 hx).1; have := HN.out; omega) hx hy
      clear hg hP hB
      go_wp2_with fail
      go_ret
      exact ⟨true, rfl, ⟨fun _ => HE.out, fun _ => rfl⟩, HK.out.2.2⟩
end Go.Proofs.Ytihealembikkiaa
namespace Go.Proofs.Ytihealembikkiaa
open Go.RowKit Fm Bl Lt El L2 L14 Go.Deep
set_option linter.unusedVariables false
set_option maxRecDepth 20000
set_option linter.unusedSimpArgs false

set_option maxHeartbeats 6400000 in
set_option maxRecDepth 20000 in
theorem eequal_same (w : World) (x y : Value) (F : Elk) (h : ElAt w x F) (h' : ElAt w y F) (sm : SmallE F) :
    Calls Try.prog 20 #[x, y] w fun e w' => e = .returned (.bool true) ∧ Below w.heap.size w w' := by
  obtain ⟨bv, rv, rfl, hB, hr⟩ := h
  obtain ⟨bv', rv', rfl, hB', hr'⟩ := h'
  have EQ : Hid (∀ u, Below w.heap.size w u → Calls Try.prog 46 #[.agg #[.int .u64 F.LS, .int .i64 F.LM, rv], .agg #[.int .u64 F.LS, .int .i64 F.LM, rv']] u fun e w' => e = .returned (.bool true) ∧ Below u.heap.size u w') := fun u b => (requal_any u _ _ F.LS F.LM F.LS F.LM F.R F.R F.L F.L F.Z F.Z ⟨rv, rfl, hr.keep (keep_of_below b)⟩ ⟨rv', rfl, hr'.keep (keep_of_below b)⟩ (by have := sm.2.1.1; omega) fun i hi => by have := sm.2.1.2 i hi; omega).mono fun e w' t => by
    obtain ⟨B, rfl, hB, bb⟩ := t
    exact ⟨by rw [hB.2 ⟨rfl, rfl, rfl, fun i hi => ⟨rfl, fun j hj => rfl⟩⟩], bb⟩
  obtain ⟨A, cap, b, o, rfl, hc, h3, h4⟩ := hB
  obtain ⟨A', cap', b', o', rfl, hc', h3', h4'⟩ := hB'
  have H3 := hidE h3
  have H4 := hidE h4
  have G3 := hidE h3'
  have G4 := hidE h4'
  have SM := hidE sm
  obtain ⟨n, hn⟩ : ∃ n, n = F.bs.length := ⟨_, rfl⟩
  have HN := hidE hn
  have n300 := sm.1
  rw [← hn] at hc hc' n300 ⊢
  have BX : Hid (Below w.heap.size w ((w.alloc (.cells (elc F (.slice A n cap) rv) 32)).alloc (.cells (elc F (.slice A' n cap') rv') 32))) := (bel_alloc _ _).alloc (by simp) _
  have KX : Hid (Blk ((w.alloc (.cells (elc F (.slice A n cap) rv) 32)).alloc (.cells (elc F (.slice A' n cap') rv') 32)) w.heap.size 32 (elc F (.slice A n cap) rv)) := (Blk.new _ _ _).alloc _
  have KY : Hid (Blk ((w.alloc (.cells (elc F (.slice A n cap) rv) 32)).alloc (.cells (elc F (.slice A' n cap') rv') 32)) (w.heap.size + 1) 32 (elc F (.slice A' n cap') rv')) := by
    have e := Blk.new (w.alloc (.cells (elc F (.slice A n cap) rv) 32)) 32 (elc F (.slice A' n cap') rv')
    rw [show (w.alloc (.cells (elc F (.slice A n cap) rv) 32)).heap.size = w.heap.size + 1 by simp] at e
    exact e
  clear h3 h4 h3' h4' hr hr' hn sm
  unfold elv elc at *
  have s1 : (F.S != F.S) = false := by simp
  have s2 : (F.room != F.room) = false := by simp
  have s3 : (F.votes != F.votes) = false := by simp
  have s4 : ((n : Int) != (n : Int)) = false := by simp
  go_enter Try.func20, Try.ntmps20
  go_wp2_with fail
  generalize (w.alloc (.cells #[.int .u64 F.S, .int .i64 F.room, .int .i64 F.votes, .slice A n cap, .int .u64 F.LS, .int .i64 F.LM, rv] 32)).alloc (.cells #[.int .u64 F.S, .int .i64 F.room, .int .i64 F.votes, .slice A' n cap', .int .u64 F.LS, .int .i64 F.LM, rv'] 32) = X at BX KX KY ⊢
  refine (EQ.out _ BX.out).mono ?_
  rintro e u1 ⟨rfl, b1⟩
  have HB1 := hidE b1
  clear b1 EQ s1 s2 s3 s4
  go_wp2_with fail
  go_loopg [5] n (fun gk i wr => ∃ k : Nat, (gk = n - k ∧ k ≤ n ∧ Below X.heap.size X wr) ∧ i = .int .i64 (k : Int))
  case atStart => exact ⟨0, ⟨rfl, by omega, HB1.out⟩, rfl⟩
  case round =>
    clear HB1
    obtain ⟨k, ⟨hgk, hk, hB⟩, rfl⟩ := hrel
    have HB := hidE hB
    have HG := hidE hgk
    have x3 : wr.cell? ⟨w.heap.size, 3, none⟩ = some (.slice A n cap) := (KX.out.since HB.out).cell 3
    have y3 : wr.cell? ⟨w.heap.size + 1, 3, none⟩ = some (.slice A' n cap') := (KY.out.since HB.out).cell 3
    clear hB hgk
    by_cases kz : k < n
    · have bk : (k : Int) < (n : Int) := by omega
      have bk0 : (0 : Int) ≤ (k : Int) := by omega
      obtain rfl := H3.out (by rw [← HN.out]; omega)
      obtain rfl := G3.out (by rw [← HN.out]; omega)
      obtain ⟨z, hz⟩ : ∃ z, F.bs[k]? = some z := ⟨_, List.getElem?_eq_getElem (by rw [← HN.out]; exact kz)⟩
      have SB := SM.out.2.2 k z hz
      obtain ⟨ev, q1, q2, hE⟩ := H4.out k z hz
      obtain ⟨ev', r1, r2, hE'⟩ := G4.out k z hz
      obtain ⟨A2, cp2, b2, o2, rfl, hc2, h5, h6⟩ := hE
      obtain ⟨A2', cp2', b2', o2', rfl, hc2', h5', h6'⟩ := hE'
      have q1 := keep_of_below (bel_trans BX.out HB.out) _ _ q1
      have q2 := keep_of_below (bel_trans BX.out HB.out) _ _ q2
      have r1 := keep_of_below (bel_trans BX.out HB.out) _ _ r1
      have r2 := keep_of_below (bel_trans BX.out HB.out) _ _ r2
      have H5 := hidE h5
      have H6 := hidE h6
      have G5 := hidE h5'
      have G6 := hidE h6'
      obtain ⟨m, hm⟩ : ∃ m, m = z.es.length := ⟨_, rfl⟩
      have HM := hidE hm
      have em := SB.1
      obtain ⟨ag, hag⟩ : ∃ ag, ag = z.ag := ⟨_, rfl⟩
      rw [← hm] at q1 r1 hc2 hc2' em
      rw [← hag] at q2 r2
      have a1 : (ag != ag) = false := by simp
      have a2 : ((m : Int) != (m : Int)) = false := by simp
      clear h5 h6 h5' h6' hz hm hag SB
      go_wp2_with fail
      have X3 := hidE x3
      have Y3 := hidE y3
      have Q1 := hidE q1
      have Q2 := hidE q2
      have R1 := hidE r1
      have R2 := hidE r2
      clear x3 y3 q1 q2 r1 r2
      refine letterQ ?_
      intro QQ hQQ
      have Z0 : Hid (Below wr.heap.size wr wr.drew) := (Below.refl _ _).drew
      refine wp_region_noPanic ?_
      refine wp_region_held_drew (S := fun w2 => Below wr.heap.size wr w2) (by kernel_rfl) Z0.out (fun hHeld => ?_)
      clear hHeld
      have SZ : Hid (X.heap.size ≤ wr.heap.size) := HB.out.size
      generalize wr.drew = q0 at Z0 ⊢
      refine wpAnyH_take (i := 0) (v := ?_) rfl (by kernel_rfl) (by kernel_rfl) (by kernel_rfl) (fun _ _ _ h => h) (Or.inl ⟨by rfl, ?_⟩) Z0.out ?_
      rotate_left
      · intro wq hSw; go_simp; first | done | with_reducible rfl
      simp only [List.getElem_toArray, List.getElem_cons_zero, Act.put, List.setIfInBounds_toArray, List.set_cons_zero, List.set_cons_succ]
      refine wpAnyH_take (i := 1) (v := ?_) rfl (by kernel_rfl) (by kernel_rfl) (by kernel_rfl) (fun _ _ _ h => h) (Or.inl ⟨by rfl, ?_⟩) Z0.out ?_
      rotate_left
      · intro wq hSw; have cl0 := keep_of_below hSw _ _ X3.out; go_simp; first | done | with_reducible rfl
      simp only [List.getElem_toArray, List.getElem_cons_zero, List.getElem_cons_succ, Act.put, List.setIfInBounds_toArray, List.set_cons_zero, List.set_cons_succ]
      refine wpAnyH_take (i := 2) (v := ?_) rfl (by kernel_rfl) (by kernel_rfl) (by kernel_rfl) (fun _ _ _ h => h) (Or.inl ⟨by rfl, ?_⟩) Z0.out ?_
      rotate_left
      · intro wq hSw; go_simp; first | done | with_reducible rfl
      simp only [List.getElem_toArray, List.getElem_cons_zero, List.getElem_cons_succ, Act.put, List.setIfInBounds_toArray, List.set_cons_zero, List.set_cons_succ]
      refine wpAnyH_take (i := 3) (v := ?_) rfl (by kernel_rfl) (by kernel_rfl) (by kernel_rfl) (fun _ _ _ h => h) (Or.inl ⟨by rfl, ?_⟩) Z0.out ?_
      rotate_left
      · intro wq hSw; go_simp; first | done | with_reducible rfl
      simp only [List.getElem_toArray, List.getElem_cons_zero, List.getElem_cons_succ, Act.put, List.setIfInBounds_toArray, List.set_cons_zero, List.set_cons_succ]
      refine wpAnyH_take (i := 4) (v := ?_) rfl (by kernel_rfl) (by kernel_rfl) (by kernel_rfl) (fun _ _ _ h => h) (Or.inl ⟨by rfl, ?_⟩) Z0.out ?_
      rotate_left
      · intro wq hSw; have cl0 := keep_of_below hSw _ _ Q1.out; have cl1 := keep_of_below hSw _ _ Q2.out; go_simp; first | done | with_reducible rfl
      simp only [List.getElem_toArray, List.getElem_cons_zero, List.getElem_cons_succ, Act.put, List.setIfInBounds_toArray, List.set_cons_zero, List.set_cons_succ]
      refine wpAnyH_take (i := 5) (v := ?_) rfl (by kernel_rfl) (by kernel_rfl) (by kernel_rfl) (fun _ _ _ h => h) (Or.inl ⟨by rfl, ?_⟩) Z0.out ?_
      rotate_left
      · intro wq hSw; go_simp; first | done | with_reducible rfl
      simp only [List.getElem_toArray, List.getElem_cons_zero, List.getElem_cons_succ, Act.put, List.setIfInBounds_toArray, List.set_cons_zero, List.set_cons_succ]
      refine wpAnyH_take (i := 6) (v := ?_) rfl (by kernel_rfl) (by kernel_rfl) (by kernel_rfl) (fun _ _ _ h => h) (Or.inl ⟨by rfl, ?_⟩) Z0.out ?_
      rotate_left
      · intro wq hSw; have cl0 := keep_of_below hSw _ _ Y3.out; go_simp; first | done | with_reducible rfl
      simp only [List.getElem_toArray, List.getElem_cons_zero, List.getElem_cons_succ, Act.put, List.setIfInBounds_toArray, List.set_cons_zero, List.set_cons_succ]
      refine wpAnyH_take (i := 7) (v := ?_) rfl (by kernel_rfl) (by kernel_rfl) (by kernel_rfl) (fun _ _ _ h => h) (Or.inl ⟨by rfl, ?_⟩) Z0.out ?_
      rotate_left
      · intro wq hSw; go_simp; first | done | with_reducible rfl
      simp only [List.getElem_toArray, List.getElem_cons_zero, List.getElem_cons_succ, Act.put, List.setIfInBounds_toArray, List.set_cons_zero, List.set_cons_succ]
      refine wpAnyH_take (i := 8) (v := ?_) rfl (by kernel_rfl) (by kernel_rfl) (by kernel_rfl) (fun _ _ _ h => h) (Or.inl ⟨by rfl, ?_⟩) Z0.out ?_
      rotate_left
      · intro wq hSw; go_simp; first | done | with_reducible rfl
      simp only [List.getElem_toArray, List.getElem_cons_zero, List.getElem_cons_succ, Act.put, List.setIfInBounds_toArray, List.set_cons_zero, List.set_cons_succ]
      refine wpAnyH_take (i := 9) (v := ?_) rfl (by kernel_rfl) (by kernel_rfl) (by kernel_rfl) (fun _ _ _ h => h) (Or.inl ⟨by rfl, ?_⟩) Z0.out ?_
      rotate_left
      · intro wq hSw; have cl0 := keep_of_below hSw _ _ R1.out; have cl1 := keep_of_below hSw _ _ R2.out; go_simp; first | done | with_reducible rfl
      simp only [List.getElem_toArray, List.getElem_cons_zero, List.getElem_cons_succ, Act.put, List.setIfInBounds_toArray, List.set_cons_zero, List.set_cons_succ]
      refine wpAnyH_ready (rs := [10, 11]) (by kernel_rfl) (by simp) ?_
      refine AllReadyH.cons rfl (fun K hK => ?_) ?_
      · go_simp
        have Y1 : Hid (Below wr.heap.size wr (q0.alloc (.cells #[.slice none 0 0, .int .i64 0] 74))) := bel_trans Z0.out (bel_alloc _ _)
        have K6 : Hid (Blk (q0.alloc (.cells #[.slice none 0 0, .int .i64 0] 74)) q0.heap.size 74 #[.slice none 0 0, .int .i64 0]) := Blk.new _ _ _
        have GE6 : Hid (wr.heap.size ≤ q0.heap.size) := Z0.out.size
        generalize q0.alloc (.cells #[.slice none 0 0, .int .i64 0] 74) = p1 at Y1 K6 ⊢
        generalize q0.heap.size = g6 at K6 GE6 ⊢
        refine hK.out _ _ (by exact Y1.out) (fun hHeld => ?_)
        clear hK K hHeld
        refine wpAnyH_ready (rs := [11]) (by kernel_rfl) (by simp) ?_
        refine AllReadyH.cons rfl (fun K hK => ?_) ?_
        · go_simp
          have Y2 : Hid (Below wr.heap.size wr (p1.alloc (.cells #[.slice none 0 0, .int .i64 0] 74))) := bel_trans Y1.out (bel_alloc _ _)
          have K7 : Hid (Blk (p1.alloc (.cells #[.slice none 0 0, .int .i64 0] 74)) p1.heap.size 74 #[.slice none 0 0, .int .i64 0]) := Blk.new _ _ _
          have GE7 : Hid (wr.heap.size ≤ p1.heap.size) := Y1.out.size
          have NE : Hid (g6 ≠ p1.heap.size) := Nat.ne_of_lt K6.out.lt
          have J6 := hidE (K6.out.alloc (.cells #[.slice none 0 0, .int .i64 0] 74))
          clear K6
          have K6 := J6
          clear J6
          generalize p1.alloc (.cells #[.slice none 0 0, .int .i64 0] 74) = p2 at Y2 K7 K6 ⊢
          generalize p1.heap.size = g7 at K7 GE7 NE ⊢
          refine hK.out _ _ (by exact Y2.out) (fun hHeld => ?_)
          clear hK K hHeld
          refine wpAnyH_ready (rs := [12]) (by kernel_rfl) (by simp) ?_
          refine AllReadyH.cons rfl (fun K hK => ?_) ?_
          · have f0 := K6.out.frozen 0
            have f1 := K6.out.frozen 1
            have e0 : p2.cell? ⟨g6, 0, none⟩ = some (.slice none 0 0) := K6.out.cell 0
            have e1 : p2.cell? ⟨g6, 1, none⟩ = some (.int .i64 0) := K6.out.cell 1
            go_simp
            clear f0 f1 e0 e1
            have J6 : Hid (Blk ((p2.setCell ⟨g6, 0, none⟩ (.slice A2 m cp2)).setCell ⟨g6, 1, none⟩ (.int .i64 ag)) g6 74 #[.slice A2 m cp2, .int .i64 ag]) := (K6.out.set 0 _).set 1 _
            have Y3 : Hid (Below wr.heap.size wr ((p2.setCell ⟨g6, 0, none⟩ (.slice A2 m cp2)).setCell ⟨g6, 1, none⟩ (.int .i64 ag))) := (Y2.out.setCell (p := ⟨g6, 0, none⟩) GE6.out _).setCell (p := ⟨g6, 1, none⟩) GE6.out _
            clear K6
            have K6 := J6
            clear J6
            have J7 : Hid (Blk ((p2.setCell ⟨g6, 0, none⟩ (.slice A2 m cp2)).setCell ⟨g6, 1, none⟩ (.int .i64 ag)) g7 74 #[.slice none 0 0, .int .i64 0]) := (K7.out.other (a := ⟨g6, 0, none⟩) (by show g7 ≠ g6; exact NE.out.symm) _).other (a := ⟨g6, 1, none⟩) (by show g7 ≠ g6; exact NE.out.symm) _
            clear K7
            have K7 := J7
            clear J7
            generalize (p2.setCell ⟨g6, 0, none⟩ (.slice A2 m cp2)).setCell ⟨g6, 1, none⟩ (.int .i64 ag) = p3 at Y3 K6 K7 ⊢
            refine hK.out _ _ (by exact Y3.out) (fun hHeld => ?_)
            clear hK K hHeld
            refine wpAnyH_ready (rs := [13]) (by kernel_rfl) (by simp) ?_
            refine AllReadyH.cons rfl (fun K hK => ?_) ?_
            · have f0 := K7.out.frozen 0
              have f1 := K7.out.frozen 1
              have e0 : p3.cell? ⟨g7, 0, none⟩ = some (.slice none 0 0) := K7.out.cell 0
              have e1 : p3.cell? ⟨g7, 1, none⟩ = some (.int .i64 0) := K7.out.cell 1
              go_simp
              clear f0 f1 e0 e1
              have J7 : Hid (Blk ((p3.setCell ⟨g7, 0, none⟩ (.slice A2' m cp2')).setCell ⟨g7, 1, none⟩ (.int .i64 ag)) g7 74 #[.slice A2' m cp2', .int .i64 ag]) := (K7.out.set 0 _).set 1 _
              have Y4 : Hid (Below wr.heap.size wr ((p3.setCell ⟨g7, 0, none⟩ (.slice A2' m cp2')).setCell ⟨g7, 1, none⟩ (.int .i64 ag))) := (Y3.out.setCell (p := ⟨g7, 0, none⟩) GE7.out _).setCell (p := ⟨g7, 1, none⟩) GE7.out _
              clear K7
              have K7 := J7
              clear J7
              have J6 : Hid (Blk ((p3.setCell ⟨g7, 0, none⟩ (.slice A2' m cp2')).setCell ⟨g7, 1, none⟩ (.int .i64 ag)) g6 74 #[.slice A2 m cp2, .int .i64 ag]) := (K6.out.other (a := ⟨g7, 0, none⟩) (by show g6 ≠ g7; exact NE.out) _).other (a := ⟨g7, 1, none⟩) (by show g6 ≠ g7; exact NE.out) _
              clear K6
              have K6 := J6
              clear J6
              generalize (p3.setCell ⟨g7, 0, none⟩ (.slice A2' m cp2')).setCell ⟨g7, 1, none⟩ (.int .i64 ag) = p4 at Y4 K7 K6 ⊢
              refine hK.out _ _ (by exact Y4.out) (fun hHeld => ?_)
              clear hK K hHeld
              refine wpAnyH_done (by kernel_rfl) ?_ _
              refine NoPanic.normal ?_
              refine hQQ.out _ _ ?_
              clear hQQ
              have k60 : p4.cell? ⟨g6, 0, none⟩ = some (.slice A2 m cp2) := K6.out.cell 0
              have k61 : p4.cell? ⟨g6, 1, none⟩ = some (.int .i64 ag) := K6.out.cell 1
              have k70 : p4.cell? ⟨g7, 0, none⟩ = some (.slice A2' m cp2') := K7.out.cell 0
              have k71 : p4.cell? ⟨g7, 1, none⟩ = some (.int .i64 ag) := K7.out.cell 1
              go_wp2_with fail
              go_loopg [8] m (fun gj j wr => ∃ t : Nat, (gj = m - t ∧ t ≤ m ∧ Below p4.heap.size p4 wr) ∧ j = .int .i64 (t : Int))
              case atStart => exact ⟨0, ⟨rfl, by omega, Below.refl _ _⟩, rfl⟩
              case round =>
                obtain ⟨t, ⟨hgj, ht, hBB⟩, rfl⟩ := hrel
                have HJ := hidE hgj
                have HBB := hidE hBB
                have k60 : wr.cell? ⟨g6, 0, none⟩ = some (.slice A2 m cp2) := (K6.out.since HBB.out).cell 0
                have k70 : wr.cell? ⟨g7, 0, none⟩ = some (.slice A2' m cp2') := (K7.out.since HBB.out).cell 0
                clear hgj hBB
                by_cases tz : t < m
                · obtain rfl := H5.out (by rw [← HM.out]; omega)
                  obtain rfl := G5.out (by rw [← HM.out]; omega)
                  obtain ⟨x, hx⟩ : ∃ x, z.es[t]? = some x := ⟨_, List.getElem?_eq_getElem (by rw [← HM.out]; exact tz)⟩
                  obtain ⟨c1, c2, c3⟩ := H6.out t x hx
                  obtain ⟨d1, d2, d3⟩ := G6.out t x hx
                  have bb := bel_trans (bel_trans (bel_trans BX.out HB.out) Y4.out) HBB.out
                  have c1 := keep_of_below bb _ _ c1
                  have c2 := keep_of_below bb _ _ c2
                  have c3 := keep_of_below bb _ _ c3
                  have d1 := keep_of_below bb _ _ d1
                  have d2 := keep_of_below bb _ _ d2
                  have d3 := keep_of_below bb _ _ d3
                  obtain ⟨tk, d, f⟩ := x
                  simp only at c1 c2 c3 d1 d2 d3
                  have bt : (t : Int) < (m : Int) := by omega
                  have bt0 : (0 : Int) ≤ (t : Int) := by omega
                  have w1 : (tk.toList == tk.toList) = true := by simp
                  have w2 : (d == d) = true := by simp
                  have w3 : (f == f) = true := by simp
                  clear hx bb
                  go_wp2_with fail
                  go_quiet (fail)
                  go_wp2_with fail
                  go_roundg (m - (t + 1))
                  case measure => have := HJ.out; omega
                  case rel => exact ⟨t + 1, ⟨rfl, by omega, below_drewN HBB.out _⟩, by go_num⟩
                · have bt : ¬ (t : Int) < (m : Int) := by omega
                  go_wp2_with fail
                  go_roundg (n - (k + 1))
                  case measure => have := HG.out; omega
                  case rel => exact ⟨k + 1, ⟨rfl, by omega, bel_trans (bel_trans HB.out Y4.out) HBB.out⟩, by go_num⟩
            exact AllReadyH.nil
          exact AllReadyH.nil
        exact AllReadyH.nil
      refine AllReadyH.cons rfl (fun K hK => ?_) ?_
      · go_simp
        have Y1 : Hid (Below wr.heap.size wr (q0.alloc (.cells #[.slice none 0 0, .int .i64 0] 74))) := bel_trans Z0.out (bel_alloc _ _)
        have K7 : Hid (Blk (q0.alloc (.cells #[.slice none 0 0, .int .i64 0] 74)) q0.heap.size 74 #[.slice none 0 0, .int .i64 0]) := Blk.new _ _ _
        have GE7 : Hid (wr.heap.size ≤ q0.heap.size) := Z0.out.size
        generalize q0.alloc (.cells #[.slice none 0 0, .int .i64 0] 74) = p1 at Y1 K7 ⊢
        generalize q0.heap.size = g7 at K7 GE7 ⊢
        refine hK.out _ _ (by exact Y1.out) (fun hHeld => ?_)
        clear hK K hHeld
        refine wpAnyH_ready (rs := [10]) (by kernel_rfl) (by simp) ?_
        refine AllReadyH.cons rfl (fun K hK => ?_) ?_
        · go_simp
          have Y2 : Hid (Below wr.heap.size wr (p1.alloc (.cells #[.slice none 0 0, .int .i64 0] 74))) := bel_trans Y1.out (bel_alloc _ _)
          have K6 : Hid (Blk (p1.alloc (.cells #[.slice none 0 0, .int .i64 0] 74)) p1.heap.size 74 #[.slice none 0 0, .int .i64 0]) := Blk.new _ _ _
          have GE6 : Hid (wr.heap.size ≤ p1.heap.size) := Y1.out.size
          have NE : Hid (g7 ≠ p1.heap.size) := Nat.ne_of_lt K7.out.lt
          have J7 := hidE (K7.out.alloc (.cells #[.slice none 0 0, .int .i64 0] 74))
          clear K7
          have K7 := J7
          clear J7
          generalize p1.alloc (.cells #[.slice none 0 0, .int .i64 0] 74) = p2 at Y2 K6 K7 ⊢
          generalize p1.heap.size = g6 at K6 GE6 NE ⊢
          refine hK.out _ _ (by exact Y2.out) (fun hHeld => ?_)
          clear hK K hHeld
          refine wpAnyH_ready (rs := [12]) (by kernel_rfl) (by simp) ?_
          refine AllReadyH.cons rfl (fun K hK => ?_) ?_
          · have f0 := K6.out.frozen 0
            have f1 := K6.out.frozen 1
            have e0 : p2.cell? ⟨g6, 0, none⟩ = some (.slice none 0 0) := K6.out.cell 0
            have e1 : p2.cell? ⟨g6, 1, none⟩ = some (.int .i64 0) := K6.out.cell 1
            go_simp
            clear f0 f1 e0 e1
            have J6 : Hid (Blk ((p2.setCell ⟨g6, 0, none⟩ (.slice A2 m cp2)).setCell ⟨g6, 1, none⟩ (.int .i64 ag)) g6 74 #[.slice A2 m cp2, .int .i64 ag]) := (K6.out.set 0 _).set 1 _
            have Y3 : Hid (Below wr.heap.size wr ((p2.setCell ⟨g6, 0, none⟩ (.slice A2 m cp2)).setCell ⟨g6, 1, none⟩ (.int .i64 ag))) := (Y2.out.setCell (p := ⟨g6, 0, none⟩) GE6.out _).setCell (p := ⟨g6, 1, none⟩) GE6.out _
            clear K6
            have K6 := J6
            clear J6
            have J7 : Hid (Blk ((p2.setCell ⟨g6, 0, none⟩ (.slice A2 m cp2)).setCell ⟨g6, 1, none⟩ (.int .i64 ag)) g7 74 #[.slice none 0 0, .int .i64 0]) := (K7.out.other (a := ⟨g6, 0, none⟩) (by show g7 ≠ g6; exact NE.out) _).other (a := ⟨g6, 1, none⟩) (by show g7 ≠ g6; exact NE.out) _
            clear K7
            have K7 := J7
            clear J7
            generalize (p2.setCell ⟨g6, 0, none⟩ (.slice A2 m cp2)).setCell ⟨g6, 1, none⟩ (.int .i64 ag) = p3 at Y3 K6 K7 ⊢
            refine hK.out _ _ (by exact Y3.out) (fun hHeld => ?_)
            clear hK K hHeld
            refine wpAnyH_ready (rs := [13]) (by kernel_rfl) (by simp) ?_
            refine AllReadyH.cons rfl (fun K hK => ?_) ?_
            · have f0 := K7.out.frozen 0
              have f1 := K7.out.frozen 1
              have e0 : p3.cell? ⟨g7, 0, none⟩ = some (.slice none 0 0) := K7.out.cell 0
              have e1 : p3.cell? ⟨g7, 1, none⟩ = some (.int .i64 0) := K7.out.cell 1
              go_simp
              clear f0 f1 e0 e1
              have J7 : Hid (Blk ((p3.setCell ⟨g7, 0, none⟩ (.slice A2' m cp2')).setCell ⟨g7, 1, none⟩ (.int .i64 ag)) g7 74 #[.slice A2' m cp2', .int .i64 ag]) := (K7.out.set 0 _).set 1 _
              have Y4 : Hid (Below wr.heap.size wr ((p3.setCell ⟨g7, 0, none⟩ (.slice A2' m cp2')).setCell ⟨g7, 1, none⟩ (.int .i64 ag))) := (Y3.out.setCell (p := ⟨g7, 0, none⟩) GE7.out _).setCell (p := ⟨g7, 1, none⟩) GE7.out _
              clear K7
              have K7 := J7
              clear J7
              have J6 : Hid (Blk ((p3.setCell ⟨g7, 0, none⟩ (.slice A2' m cp2')).setCell ⟨g7, 1, none⟩ (.int .i64 ag)) g6 74 #[.slice A2 m cp2, .int .i64 ag]) := (K6.out.other (a := ⟨g7, 0, none⟩) (by show g6 ≠ g7; exact NE.out.symm) _).other (a := ⟨g7, 1, none⟩) (by show g6 ≠ g7; exact NE.out.symm) _
              clear K6
              have K6 := J6
              clear J6
              generalize (p3.setCell ⟨g7, 0, none⟩ (.slice A2' m cp2')).setCell ⟨g7, 1, none⟩ (.int .i64 ag) = p4 at Y4 K7 K6 ⊢
              refine hK.out _ _ (by exact Y4.out) (fun hHeld => ?_)
              clear hK K hHeld
              refine wpAnyH_done (by kernel_rfl) ?_ _
              refine NoPanic.normal ?_
              refine hQQ.out _ _ ?_
              clear hQQ
              have k60 : p4.cell? ⟨g6, 0, none⟩ = some (.slice A2 m cp2) := K6.out.cell 0
              have k61 : p4.cell? ⟨g6, 1, none⟩ = some (.int .i64 ag) := K6.out.cell 1
              have k70 : p4.cell? ⟨g7, 0, none⟩ = some (.slice A2' m cp2') := K7.out.cell 0
              have k71 : p4.cell? ⟨g7, 1, none⟩ = some (.int .i64 ag) := K7.out.cell 1
              go_wp2_with fail
              go_loopg [8] m (fun gj j wr => ∃ t : Nat, (gj = m - t ∧ t ≤ m ∧ Below p4.heap.size p4 wr) ∧ j = .int .i64 (t : Int))
              case atStart => exact ⟨0, ⟨rfl, by omega, Below.refl _ _⟩, rfl⟩
              case round =>
                obtain ⟨t, ⟨hgj, ht, hBB⟩, rfl⟩ := hrel
                have HJ := hidE hgj
                have HBB := hidE hBB
                have k60 : wr.cell? ⟨g6, 0, none⟩ = some (.slice A2 m cp2) := (K6.out.since HBB.out).cell 0
                have k70 : wr.cell? ⟨g7, 0, none⟩ = some (.slice A2' m cp2') := (K7.out.since HBB.out).cell 0
                clear hgj hBB
                by_cases tz : t < m
                · obtain rfl := H5.out (by rw [← HM.out]; omega)
                  obtain rfl := G5.out (by rw [← HM.out]; omega)
                  obtain ⟨x, hx⟩ : ∃ x, z.es[t]? = some x := ⟨_, List.getElem?_eq_getElem (by rw [← HM.out]; exact tz)⟩
                  obtain ⟨c1, c2, c3⟩ := H6.out t x hx
                  obtain ⟨d1, d2, d3⟩ := G6.out t x hx
                  have bb := bel_trans (bel_trans (bel_trans BX.out HB.out) Y4.out) HBB.out
                  have c1 := keep_of_below bb _ _ c1
                  have c2 := keep_of_below bb _ _ c2
                  have c3 := keep_of_below bb _ _ c3
                  have d1 := keep_of_below bb _ _ d1
                  have d2 := keep_of_below bb _ _ d2
                  have d3 := keep_of_below bb _ _ d3
                  obtain ⟨tk, d, f⟩ := x
                  simp only at c1 c2 c3 d1 d2 d3
                  have bt : (t : Int) < (m : Int) := by omega
                  have bt0 : (0 : Int) ≤ (t : Int) := by omega
                  have w1 : (tk.toList == tk.toList) = true := by simp
                  have w2 : (d == d) = true := by simp
                  have w3 : (f == f) = true := by simp
                  clear hx bb
                  go_wp2_with fail
                  go_quiet (fail)
                  go_wp2_with fail
                  go_roundg (m - (t + 1))
                  case measure => have := HJ.out; omega
                  case rel => exact ⟨t + 1, ⟨rfl, by omega, below_drewN HBB.out _⟩, by go_num⟩
                · have bt : ¬ (t : Int) < (m : Int) := by omega
                  go_wp2_with fail
                  go_roundg (n - (k + 1))
                  case measure => have := HG.out; omega
                  case rel => exact ⟨k + 1, ⟨rfl, by omega, bel_trans (bel_trans HB.out Y4.out) HBB.out⟩, by go_num⟩
            exact AllReadyH.nil
          exact AllReadyH.nil
        exact AllReadyH.nil
      exact AllReadyH.nil
    · have bk : ¬ (k : Int) < (n : Int) := by omega
      go_wp2_with fail
      go_ret
      exact ⟨rfl, bel_trans BX.out HB.out⟩
end Go.Proofs.Ytihealembikkiaa
