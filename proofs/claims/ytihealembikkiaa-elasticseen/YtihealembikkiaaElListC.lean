
/-
  List of layer 15 (elastic): what the code answers.
-/
import Derived.Test.YtihealembikkiaaElRightC
import Derived.Test.YtihealembikkiaaElSort
import Derived.Deep.AppendLies
namespace Go.Proofs.Ytihealembikkiaa
open Go.RowKit Fm Bl Lt El Hv L2 L10 L14 Go.Deep Go.Shelf
set_option linter.unusedVariables false
set_option maxRecDepth 20000
set_option linter.unusedSimpArgs false

theorem infoHI3 : ∃ i, Try.prog.info? 68 = some i ∧ i.zero = some (.agg #[.string ⟨#[]⟩, .int .i64 0]) ∧ i.size = 2 ∧ i.bytes = 24 := by
  have h : (Try.prog.info? 68).map (fun i => (i.zero, i.size, i.bytes)) = some (some (.agg #[.string ⟨#[]⟩, .int .i64 0]), 2, 24) := by kernel_rfl
  obtain ⟨i, hi, hzz⟩ := Option.map_eq_some_iff.1 h
  simp only [Prod.mk.injEq] at hzz
  exact ⟨i, hi, hzz⟩
theorem esortF (w : World) (Bd : Nat) (v : Value) (l m : List Itm) (h : w.ownsRow Bd 68 2 v l.length (lCells l)) (hn : l.length ≤ 100000) (hm : NoneA m) (pm : l.Perm m) (hb : Bd ≤ w.heap.size) :
    Calls Try.prog 34 #[v, .func (.func 35) #[] #[]] w fun e w' => e = .returned (.tuple #[]) ∧ Held (fun q => Bd ≤ q) (fun u => ItsL u v m) w' ∧ Below Bd w w' := by
  rcases h.2 with ⟨rfl, z⟩ | ⟨g, cap, cur, rfl, hg, hh, hc, _⟩
  · have e : l = [] := List.length_eq_zero_iff.1 z
    subst e
    obtain rfl : m = [] := pm.nil_eq.symm
    refine (Go.Proofs.AnyF.slices_SortFunc_none laysI none 0 (.func (.func 35) #[] #[]) w).mono ?_
    rintro e w1 ⟨rfl, rfl⟩
    exact ⟨rfl, fun u _ => its_none u, Below.refl _ _⟩
  · have lt : g < w.heap.size := (h.lt g rfl).2
    refine (esortI_any w Bd g cap l m h hc hn hm pm hg lt hb).mono fun e w1 q => ⟨q.1, q.2.1.mono fun p _ d => by rw [d]; exact hg, q.2.2⟩
theorem take_itB {most : Int} {bs : List Bkt} {k : Nat} {y : Bkt} (h : bs[k]? = some y) : itB most (bs.take (k + 1)) = itB most (bs.take k) ++ itE most y.es := by
  rw [List.take_add_one, h]
  show itB most (bs.take k ++ [y]) = _
  rw [itB_append]
  simp [itB]
theorem take_itE {most : Int} {es : List Ent} {j : Nat} {e : Ent} (h : es[j]? = some e) : itE most (es.take (j + 1)) = itE most (es.take j) ++ (if e.v ≥ most then [⟨e.k, e.v⟩] else []) := by
  rw [List.take_add_one, h]
  show itE most (es.take j ++ [e]) = _
  rw [itE_append]
  congr 1
theorem growL_len {t : TypeId} {w wr : World} {A : Option Addr} {m c : Nat} {l : List Itm} (h : GrowL t w wr (.slice A m c) l) : m = l.length := by
  rcases h.own.2 with ⟨e, z⟩ | ⟨g, cap, cur, e, _⟩
  · cases e; exact z.symm
  · cases e; rfl
set_option maxHeartbeats 1600000 in
theorem elistC_bad0 (w : World) (S room votes LS LM : Int) (A LA : Option Addr) (n cap R lcap : Nat) (most : Int) (RC : Hid (∀ u, Below w.heap.size w u → Calls Try.prog 15 #[.agg #[.int .u64 S, .int .i64 room, .int .i64 votes, .slice A n cap, .int .u64 LS, .int .i64 LM, .slice LA R lcap]] u fun e w' => e = .returned (.bool false) ∧ Below u.heap.size u w')) : Calls Try.prog 13 #[.agg #[.int .u64 S, .int .i64 room, .int .i64 votes, .slice A n cap, .int .u64 LS, .int .i64 LM, .slice LA R lcap], .int .i64 most] w fun e w' => e = .returned (.slice none 0 0) ∧ Below w.heap.size w w' := by
  have BX : Hid (Below w.heap.size w (w.alloc (.cells #[.int .u64 S, .int .i64 room, .int .i64 votes, .slice A n cap, .int .u64 LS, .int .i64 LM, .slice LA R lcap] 28))) := bel_alloc _ _
  go_enter Try.func13, Try.ntmps13
  go_wp2_with fail
  refine (RC.out _ BX.out).mono ?_
  rintro e u1 ⟨rfl, b1⟩
  go_wp2_with fail
  go_ret
  exact ⟨rfl, bel_trans BX.out b1⟩
set_option maxHeartbeats 6400000 in
theorem elistC_ok0 (w : World) (S room votes LS LM : Int) (A LA : Option Addr) (n cap R lcap : Nat) (bs : List Bkt) (most : Int) (RC : Hid (∀ u, Below w.heap.size w u → Calls Try.prog 15 #[.agg #[.int .u64 S, .int .i64 room, .int .i64 votes, .slice A n cap, .int .u64 LS, .int .i64 LM, .slice LA R lcap]] u fun e w' => e = .returned (.bool true) ∧ Below u.heap.size u w')) (hB : BktsE w (.slice A n cap) bs) (hn : n = bs.length) (n1 : n ≤ 300) (hE : ∀ (i : Nat) (b : Bkt), bs[i]? = some b → b.es.length ≤ 20) :
    Calls Try.prog 13 #[.agg #[.int .u64 S, .int .i64 room, .int .i64 votes, .slice A n cap, .int .u64 LS, .int .i64 LM, .slice LA R lcap], .int .i64 most] w fun e w' => ∃ lv, e = .returned lv ∧ NewL w w' lv (listBs most [] bs) ∧ Below w.heap.size w w' := by
  obtain ⟨A', cap', b, o, hv, hc, h3, h4⟩ := hB
  simp only [Value.slice.injEq] at hv
  obtain ⟨e1, e2, e3⟩ := hv
  subst e1 e3
  clear e2
  have H3 := hidE h3
  have H4 := hidE h4
  have HE := hidE hE
  have HN := hidE hn
  obtain ⟨it, hi, hz0, hz1, hz2⟩ := infoHI3
  have HT : Hid (Try.prog.info? 68 = some it ∧ it.zero = some (.agg #[.string ⟨#[]⟩, .int .i64 0]) ∧ it.size = 2 ∧ it.bytes = 24) := ⟨hi, hz0, hz1, hz2⟩
  have BX : Hid (Below w.heap.size w (w.alloc (.cells #[.int .u64 S, .int .i64 room, .int .i64 votes, .slice A n cap, .int .u64 LS, .int .i64 LM, .slice LA R lcap] 28))) := bel_alloc _ _
  have KX : Hid (Blk (w.alloc (.cells #[.int .u64 S, .int .i64 room, .int .i64 votes, .slice A n cap, .int .u64 LS, .int .i64 LM, .slice LA R lcap] 28)) w.heap.size 28 #[.int .u64 S, .int .i64 room, .int .i64 votes, .slice A n cap, .int .u64 LS, .int .i64 LM, .slice LA R lcap]) := Blk.new _ _ _
  clear h3 h4 hE hc hn hi hz0 hz1 hz2
  go_enter Try.func13, Try.ntmps13
  go_wp2_with fail
  generalize w.alloc (.cells #[.int .u64 S, .int .i64 room, .int .i64 votes, .slice A n cap, .int .u64 LS, .int .i64 LM, .slice LA R lcap] 28) = X at BX KX ⊢
  refine (RC.out _ BX.out).mono ?_
  rintro e u1 ⟨rfl, b1⟩
  have B1 := hidE (bel_trans BX.out b1)
  have x3 : u1.cell? ⟨w.heap.size, 3, none⟩ = some (.slice A n cap) := (KX.out.since b1).cell 3
  clear b1 BX KX RC
  go_wp2_with fail
  clear x3
  go_loopg [5, 7, 9, 16, 23] n (fun gk lv s7 s9 i s23 wr => ∃ (k m : Nat) (A5 : Option Addr) (c5 : Nat), (gk = n - k ∧ k ≤ n ∧ m ≤ 20 * k ∧ GrowL 68 u1 wr (.slice A5 m c5) (itB most (bs.take k))) ∧ lv = .slice A5 m c5 ∧ i = .int .i64 (k : Int))
  case atStart => exact ⟨0, 0, none, 0, ⟨rfl, by omega, by omega, growL_start _ _⟩, rfl, rfl⟩
  case round =>
    obtain ⟨k, m, A5, c5, ⟨hgk, hk, hm, hG⟩, rfl, rfl⟩ := hrel
    have HK := hidE hgk
    have HG := hidE hG
    clear hgk hG
    by_cases hz : k < n
    · obtain rfl := H3.out (by rw [← HN.out]; omega)
      obtain ⟨y, hy⟩ : ∃ y, bs[k]? = some y := ⟨_, List.getElem?_eq_getElem (by rw [← HN.out]; exact hz)⟩
      have HY := hidE hy
      have es20 := HE.out k y hy
      obtain ⟨ev, q1, q2, A2, cp2, b2, o2, rfl, hc2, h5, h6⟩ := H4.out k y hy
      have H5 := hidE h5
      have H6 := hidE h6
      obtain ⟨me, hme⟩ : ∃ me, me = y.es.length := ⟨_, rfl⟩
      have HM := hidE hme
      obtain ⟨ag, hag⟩ : ∃ ag, ag = y.ag := ⟨_, rfl⟩
      rw [← hme] at es20 q1 hc2
      rw [← hag] at q2
      have q1 := keep_of_below (bel_trans B1.out HG.out.since) _ _ q1
      have q2 := keep_of_below (bel_trans B1.out HG.out.since) _ _ q2
      have bk : (k : Int) < (n : Int) := by omega
      have bk0 : (0 : Int) ≤ (k : Int) := by omega
      have HMM := hidE hm
      clear hy hme hag h5 h6 hm
      have GA : Hid (GrowL 68 u1 (wr.alloc (.cells #[.slice A2 me cp2, .int .i64 ag] 56)) (.slice A5 m c5) (itB most (bs.take k))) := HG.out.keep (bel_alloc _ _)
      go_wp2_with fail
      clear q1 q2
      generalize wr.alloc (.cells #[.slice A2 me cp2, .int .i64 ag] 56) = Y at GA ⊢
      go_loopg [5, 9, 23] me (fun gj lv s9 j wr2 => ∃ (t m2 : Nat) (A6 : Option Addr) (c6 : Nat), (gj = me - t ∧ t ≤ me ∧ m2 ≤ 20 * k + t ∧ GrowL 68 u1 wr2 (.slice A6 m2 c6) (itB most (bs.take k) ++ itE most (y.es.take t))) ∧ lv = .slice A6 m2 c6 ∧ j = .int .i64 (t : Int))
      case atStart => exact ⟨0, m, A5, c5, ⟨rfl, by omega, by have := HMM.out; omega, by simpa [itE] using GA.out⟩, rfl, rfl⟩
      case round =>
        clear GA
        obtain ⟨t, m2, A6, c6, ⟨hgj, ht, hm2, hG2⟩, rfl, rfl⟩ := hrel
        have HJ := hidE hgj
        have HG2 := hidE hG2
        clear hgj hG2
        by_cases tz : t < me
        · obtain rfl := H5.out (by rw [← HM.out]; omega)
          obtain ⟨x, hx⟩ : ∃ x, y.es[t]? = some x := ⟨_, List.getElem?_eq_getElem (by rw [← HM.out]; exact tz)⟩
          have NX := hidE (take_itE (most := most) hx)
          obtain ⟨c1, c2, c3⟩ := H6.out t x hx
          have bb := bel_trans B1.out HG2.out.since
          have c1 := keep_of_below bb _ _ c1
          have c2 := keep_of_below bb _ _ c2
          have c3 := keep_of_below bb _ _ c3
          obtain ⟨tk, d, f⟩ := x
          simp only at c1 c2 c3 NX
          have bt : (t : Int) < (me : Int) := by omega
          have bt0 : (0 : Int) ≤ (t : Int) := by omega
          have BA : Hid (Below wr.heap.size wr (wr.alloc (.cells #[.string tk, .int .i64 d, .bool f] 76))) := bel_alloc _ _
          have KA : Hid (Blk (wr.alloc (.cells #[.string tk, .int .i64 d, .bool f] 76)) wr.heap.size 76 #[.string tk, .int .i64 d, .bool f]) := Blk.new _ _ _
          have GL : Hid (m2 = (itB most (bs.take k) ++ itE most (y.es.take t)).length) := growL_len HG2.out
          clear hx bb
          go_upto_region 10 with fail
          have G3 := hidE (HG2.out.keep BA.out)
          clear BA c1 c2 c3 HG2
          generalize wr.alloc (.cells #[.string tk, .int .i64 d, .bool f] 76) = Q at KA G3 ⊢
          generalize wr.heap.size = g9 at KA ⊢
          have y0 : Q.cell? ⟨g9, 0, none⟩ = some (.string tk) := KA.out.cell 0
          have y1 : Q.cell? ⟨g9, 1, none⟩ = some (.int .i64 d) := KA.out.cell 1
          have y2 : Q.cell? ⟨g9, 2, none⟩ = some (.bool f) := KA.out.cell 2
          by_cases ge : d ≥ most
          · rw [if_pos ge] at NX
            go_wp2_with fail
            refine (eitem_any Q tk d f).mono ?_
            rintro e u3 ⟨rfl, b3⟩
            have G4 := hidE (G3.out.keep b3)
            have sz : Hid (u1.heap.size ≤ u3.heap.size) := G4.out.since.size
            have OW : Hid (u3.ownsRow u1.heap.size 68 2 (.slice A6 m2 c6) m2 (lCells (itB most (bs.take k) ++ itE most (y.es.take t)))) := by
              have := G4.out.own
              rw [← GL.out] at this
              exact this
            clear b3 y0 y1 y2 KA G3
            go_wp2_with (at_builtin; refine wpList_append_lies _ rfl _ _ _ rfl u1.heap.size 68 it (.agg #[.string ⟨#[]⟩, .int .i64 0]) 2 24 Try.underlying41 HT.out.1 HT.out.2.1 HT.out.2.2.1 HT.out.2.2.2 rfl (by omega) (.slice A6 m2 c6) m2 (lCells (itB most (bs.take k) ++ itE most (y.es.take t))) (by rfl) (OW.out.alloc _) ⟨u3.heap.size, 0, none⟩ 1 1 [.string tk, .int .i64 d] (by rfl) rfl (new_it u3 68 _ _) (it_cell _ _) (by omega) (by unfold maxLen; omega) (by omega) (by have := sz.out; simp; omega) _ rfl ?_; intro gq cap1 w1 hown1 hgrow hat hlt1)
            go_roundg (me - (t + 1))
            case measure => have := HJ.out; omega
            case rel =>
              refine ⟨t + 1, m2 + 1, _, _, ⟨rfl, by omega, by omega, ?_⟩, rfl, by go_num⟩
              rw [NX.out, ← List.append_assoc]
              have e := G4.out.step (x := ⟨tk, d⟩) (by rw [← GL.out]; exact hown1) hgrow
              rw [← GL.out] at e
              exact e
          · rw [if_neg ge, List.append_nil] at NX
            go_wp2_with fail
            go_roundg (me - (t + 1))
            case measure => have := HJ.out; omega
            case rel => exact ⟨t + 1, m2, A6, c6, ⟨rfl, by omega, by omega, by rw [NX.out]; exact G3.out⟩, rfl, by go_num⟩
        · have bt : ¬ (t : Int) < (me : Int) := by omega
          have te : Hid (y.es.take t = y.es) := hidE (List.take_of_length_le (by have := HM.out; omega))
          go_wp2_with fail
          go_roundg (n - (k + 1))
          case measure => have := HK.out; omega
          case rel => exact ⟨k + 1, m2, A6, c6, ⟨rfl, by omega, by omega, by rw [take_itB HY.out]; have := HG2.out; rw [te.out] at this; exact this⟩, rfl, by go_num⟩
    · have bk : ¬ (k : Int) < (n : Int) := by omega
      have te : Hid (bs.take k = bs) := hidE (List.take_of_length_le (by have := HN.out; omega))
      have GL : Hid (m = (itB most bs).length) := by
        have := growL_len HG.out
        rw [te.out] at this
        exact this
      have OW : Hid (wr.ownsRow u1.heap.size 68 2 (.slice A5 m c5) (itB most bs).length (lCells (itB most bs))) := by
        have := HG.out.own
        rw [te.out] at this
        exact this
      have CS := hidE (esortF wr u1.heap.size (.slice A5 m c5) (itB most bs) (listBs most [] bs) OW.out (by have := GL.out; omega) (listBs_noneA most bs [] List.Pairwise.nil) (by have := listBs_perm most bs []; rw [List.nil_append] at this; exact this.symm) HG.out.since.size)
      go_wp2_with fail
      refine CS.out.mono ?_
      rintro e u4 ⟨rfl, h4, b4⟩
      go_wp2_with fail
      go_ret
      exact ⟨_, rfl, h4.mono fun q _ d => by have := B1.out.size; show w.heap.size ≤ q; omega, (bel_trans B1.out HG.out.since).trans (b4.mono B1.out.size)⟩
end Go.Proofs.Ytihealembikkiaa
