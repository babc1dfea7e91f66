
/-
  The document's Add of layer 15 (elastic): what it answers.
-/
import Derived.Test.YtihealembikkiaaElM5
import Derived.Test.YtihealembikkiaaElLight
import Derived.Laws.AppendOwnNone
namespace Go.Proofs.Ytihealembikkiaa
open Go.RowKit Fm Bl Lt El Hv L2 L10 L14 Go.Deep Go.Shelf
set_option linter.unusedVariables false
set_option maxRecDepth 20000
set_option linter.unusedSimpArgs false

/-- Buckets that ref has made so far. -/
structure RgB (D : Nat → Prop) (w X wr : World) (v : Value) (l : List Bkt) : Prop where
  since : Below w.heap.size w wr
  size : X.heap.size ≤ wr.heap.size
  top : ∀ q, X.heap.size ≤ q → D q
  row : ∃ vs : List Value, vs.length = l.length ∧ wr.ownsRow X.heap.size 74 2 v l.length (bCells (vs.zip (l.map Bkt.ag))) ∧ ∀ (i : Nat) (x : Bkt) (ev : Value), l[i]? = some x → vs[i]? = some ev → Held (fun q => D q ∧ some q ≠ v.ownBlock) (fun u => EntsE u ev x.es) wr
theorem RgB.keep {D : Nat → Prop} {w X wr w2 : World} {v : Value} {l : List Bkt} (h : RgB D w X wr v l) (s : Same D wr w2) (b : Below w.heap.size w w2) : RgB D w X w2 v l := by
  obtain ⟨vs, hl, own, hx⟩ := h.row
  exact ⟨b, Nat.le_trans h.size s.1, h.top, vs, hl, owns_at own fun q hq => s.2 q (h.top q (own.lt q hq).1) (own.lt q hq).2, fun i x ev hi hv => (hx i x ev hi hv).same (s.mono fun q _ d => d.1)⟩
theorem RgB.step {D : Nat → Prop} {w X wr w1 : World} {v ev : Value} {g cap : Nat} {l : List Bkt} {x : Bkt} {b : Obj} (h : RgB D w X wr v l) (vs : List Value) (hl : vs.length = l.length) (own : wr.ownsRow X.heap.size 74 2 v l.length (bCells (vs.zip (l.map Bkt.ag)))) (hx : ∀ (i : Nat) (x : Bkt) (ev : Value), l[i]? = some x → vs[i]? = some ev → Held (fun q => D q ∧ some q ≠ v.ownBlock) (fun u => EntsE u ev x.es) wr) (he : Held (fun q => D q ∧ some q ≠ v.ownBlock) (fun u => EntsE u ev x.es) wr) (bw : w.heap.size ≤ X.heap.size)
    (hown : w1.ownsRow X.heap.size 74 2 (.slice (some ⟨g, 0, none⟩) (l.length + 1) cap) (l.length + 1) (bCells (vs.zip (l.map Bkt.ag)) ++ [ev, .int .i64 x.ag])) (hg : (wr.alloc b).grownBy w1 v.ownBlock) (hn : v.ownBlock = some g ∨ wr.heap.size ≤ g) : RgB D w X w1 (.slice (some ⟨g, 0, none⟩) (l.length + 1) cap) (l ++ [x]) := by
  have sm : Same (fun q => some q ≠ v.ownBlock) wr w1 := ⟨by have := hg.size; simp at this; omega, fun q d hq => (hg.block q (by simp; omega) d).trans (Below.heap_alloc _ _ _ hq)⟩
  have gx : X.heap.size ≤ g := (hown.lt g rfl).1
  have to : ∀ {P : World → Prop}, Held (fun q => D q ∧ some q ≠ v.ownBlock) P wr → Held (fun q => D q ∧ some q ≠ (Value.slice (some ⟨g, 0, none⟩) (l.length + 1) cap).ownBlock) P w1 := fun hp u e => hp u ⟨by have := e.1; have := sm.1; omega, fun q d hq => by
    have lt : q < w1.heap.size := by have := sm.1; omega
    rw [e.2 q ⟨d.1, fun z => by
      have z2 : q = g := by simpa [Value.ownBlock] using z
      rcases hn with h1 | h1
      · exact d.2 (by rw [h1, z2])
      · omega⟩ lt]
    exact sm.2 q d.2 hq⟩
  refine ⟨(h.since.alloc (by have := h.size; omega) b).grown hg (by have := h.size; simp; omega) fun p e => by have := (own.lt p e).1; omega, by have := sm.1; have := h.size; omega, h.top, vs ++ [ev], by simp [hl], ?_, fun i y ey hy hey => ?_⟩
  · rw [List.map_append, List.zip_append (by simp [hl]), bCells_append, List.length_append, List.length_singleton]
    exact hown
  · by_cases li : i < l.length
    · rw [List.getElem?_append_left li] at hy
      rw [List.getElem?_append_left (by omega)] at hey
      exact to (hx i y ey hy hey)
    · have ei : i = l.length := by
        have := (List.getElem?_eq_some_iff.1 hy).1
        simp at this
        omega
      subst ei
      rw [List.getElem?_append_right (Nat.le_refl _)] at hy
      rw [List.getElem?_append_right (by omega)] at hey
      simp [hl] at hy hey
      subst hy hey
      exact to he
theorem RgB.bkts {D : Nat → Prop} {w X wr : World} {v : Value} {l : List Bkt} (h : RgB D w X wr v l) : Held D (fun u => BktsE u v l) wr := fun u e => by
  obtain ⟨vs, hl, own0, hx⟩ := h.row
  have own : u.ownsRow X.heap.size 74 2 v l.length (bCells (vs.zip (l.map Bkt.ag))) := owns_at own0 fun q hq => e.2 q (h.top q (own0.lt q hq).1) (own0.lt q hq).2
  have get : ∀ (i : Nat) (x : Bkt), l[i]? = some x → ∃ ev, vs[i]? = some ev ∧ (vs.zip (l.map Bkt.ag))[i]? = some (ev, x.ag) := fun i x hi => by
    have li := (List.getElem?_eq_some_iff.1 hi).1
    refine ⟨_, List.getElem?_eq_getElem (by omega), ?_⟩
    rw [List.getElem?_zip_eq_some, List.getElem?_map, hi]
    exact ⟨List.getElem?_eq_getElem (by omega), rfl⟩
  rcases own.2 with ⟨rfl, h0⟩ | ⟨g, cap, cur, rfl, _, hg, hn, _, _, _⟩
  · exact ⟨none, 0, 0, 0, by rw [h0], by omega, fun z => by omega, fun i x hi => by have := (List.getElem?_eq_some_iff.1 hi).1; omega⟩
  · refine ⟨_, cap, g, 0, rfl, hn, fun _ => rfl, fun i x hi => ?_⟩
    have li := (List.getElem?_eq_some_iff.1 hi).1
    obtain ⟨ev, e0, ez⟩ := get i x hi
    obtain ⟨g1, g2⟩ := bCells_get _ i _ ez
    have e1 := own.cellAt (j := i * 2) (by omega)
    have e2 := own.cellAt (j := i * 2 + 1) (by omega)
    rw [Nat.zero_add]
    exact ⟨ev, by rw [e1]; exact g1, by rw [e2]; exact g2, hx i x ev hi e0 u (e.mono fun q _ d => d.1)⟩
theorem RgB.slice {D : Nat → Prop} {w X wr : World} {v : Value} {l : List Bkt} (h : RgB D w X wr v l) : ∃ A c, v = .slice A l.length c := by
  obtain ⟨vs, _, own, _⟩ := h.row
  exact own_slice own
theorem RowsI.heldD {w : World} {v : Value} {R : Nat} {L : Nat → Nat} {Z : Nat → Nat → Int} {D : Nat → Prop} (h : RowsI w v R L Z) (d : ∀ q, q < w.heap.size → D q) : Held D (fun u => RowsI u v R L Z) w := fun u e => h.keep (Same.keep ⟨e.1, fun q _ hq => e.2 q (d q hq) hq⟩)
theorem run_append_zero {P : Program} {w : World} (t ty e : TypeId) (i : TypeInfo) (ht : P.underlying t = some (.slice e)) (hi : P.info? e = some i) (A : Option Addr) (c : Nat) :
    (Builtin.append_ #[t, t] ty #[.slice none 0 0, .slice A 0 c]).run P w = .ok (.slice none 0 0) w := by
  cases A <;> simp [Builtin.append_, run_underlying ht, sizeOf, typeInfo, hi, Builtin.lenOf, Builtin.firstCells, loadCells, loadCellsFrom]
theorem wpList_append_zero {P : Program} {w : World} {ops : Array Oper} {rest : List Oper} {o : Oper} {a : Act} {Q : Exit → Act → World → Prop} (hgd : o.guard = none) (s x : Operand) (t : TypeId)
    (ho : o.op = .call { callee := .builtin .append, args := #[s, x], argTypes := #[t, t] }) (e : TypeId) (i : TypeInfo) (ht : P.underlying t = some (.slice e)) (hi : P.info? e = some i) (A : Option Addr) (c : Nat)
    (hs : a.eval s = .slice none 0 0) (hx : a.eval x = .slice A 0 c) (h : wpList P ops Q rest (a.put o.dst (.slice none 0 0)) w) : wpList P ops Q (o :: rest) a w := by
  refine wpList_plain hgd fun K hK => ?_
  have hrun := run_append_zero (P := P) (w := w) t o.type e i ht hi A c
  unfold Oper.wp
  simp [execOp, ho, resolve, invoke, builtin, hs, hx, hrun, Result.andThen]
  exact hK _ _ h
set_option maxHeartbeats 3200000 in
theorem eradd_at_no (w : World) (S room votes LS LM : Int) (LA : Option Addr) (bb o n cap R lcap p c : Nat) (bs : List Bkt) (b : Bkt) (Z : Nat → Nat → Int) (s : ByteArray) (PC : Hid (∀ u, Below w.heap.size w u → Calls Try.prog 26 #[.agg #[.int .u64 S, .int .i64 room, .int .i64 votes, .slice (some ⟨bb, o, none⟩) n cap, .int .u64 LS, .int .i64 LM, .slice LA R lcap], .string s] u fun e w' => e = .returned (.int .i64 (p : Int)) ∧ Below u.heap.size u w')) (H4 : Hid (∀ (i : Nat) (x : Bkt), bs[i]? = some x → ∃ ev, w.cell? ⟨bb, o + i * 2, none⟩ = some ev ∧ w.cell? ⟨bb, o + i * 2 + 1, none⟩ = some (.int .i64 x.ag) ∧ EntsE w ev x.es)) (HN : Hid (n = bs.length)) (HR : Hid (RowsI w (.slice LA R lcap) R (fun _ => c) Z)) (pn : p < n) (n1 : n ≤ 256) (hb : bs[p]? = some b) (rb : RightB room b) (r1 : 1 ≤ room) (r8 : room ≤ 8) (v1 : 1 ≤ votes) (v2 : votes ≤ 64) (i : Nat) (e : Ent) (ga : atE b.es s = some i) (ge : b.es[i]? = some e) (dm : e.v + 1 > 1099511627776) :
    Calls Try.prog 19 #[.agg #[.int .u64 S, .int .i64 room, .int .i64 votes, .slice (some ⟨bb, o, none⟩) n cap, .int .u64 LS, .int .i64 LM, .slice LA R lcap], .string s] w fun e w' => e = .returned (.tuple #[.agg #[.int .u64 0, .int .i64 0, .int .i64 0, .slice none 0 0, .int .u64 0, .int .i64 0, .slice none 0 0], .bool false]) ∧ Below w.heap.size w w' := by
  obtain ⟨es, ag⟩ := b
  have HB := hidE hb
  obtain ⟨rl, ra0, ra1, re⟩ := rb
  simp only at rl ra0 ra1 re
  have RE := hidE re
  obtain ⟨ev, q1, q2, q3⟩ := H4.out p _ hb
  simp only at q2 q3
  have EA := hidE fun u (z : Below w.heap.size w u) => eat_any u ev ag es s (q3.keep (keep_of_below z)) (by omega)
  have HE0 := hidE q3
  obtain ⟨A2, cp2, be, oe, rfl, hc2, h5, h6⟩ := q3
  have H5 := hidE h5
  have H6 := hidE h6
  obtain ⟨m, hm⟩ : ∃ m, m = es.length := ⟨_, rfl⟩
  have HM := hidE hm
  rw [← hm] at EA q1 hc2 rl HE0
  rw [atI_some ga] at EA
  obtain ⟨k, d, f⟩ := e
  simp only at dm
  have re := RE.out i _ ge
  simp only at re
  have il : i < m := by rw [HM.out]; exact (List.getElem?_eq_some_iff.1 ge).1
  have bi : (i : Int) < (m : Int) := by omega
  have bi0 : (i : Int) ≥ 0 := by omega
  have bi1 : (0 : Int) ≤ (i : Int) := by omega
  obtain rfl := H5.out (by rw [← HM.out]; omega)
  obtain ⟨p1, p2, p3⟩ := H6.out i _ ge
  simp only at p1 p2 p3
  have d1 := re.1
  have d2 := re.2.1
  have P1 := hidE p1
  have P2 := hidE p2
  have P3 := hidE p3
  clear ga ge re p1 p2 p3
  have BX : Hid (Below w.heap.size w ((w.alloc (.cells #[.int .u64 S, .int .i64 room, .int .i64 votes, .slice (some ⟨bb, o, none⟩) n cap, .int .u64 LS, .int .i64 LM, .slice LA R lcap] 32)).alloc (.cells #[.int .u64 0, .int .i64 0, .int .i64 0, .slice none 0 0, .int .u64 0, .int .i64 0, .slice none 0 0] 32))) := (bel_alloc _ _).alloc (by simp) _
  have KX : Hid (Blk ((w.alloc (.cells #[.int .u64 S, .int .i64 room, .int .i64 votes, .slice (some ⟨bb, o, none⟩) n cap, .int .u64 LS, .int .i64 LM, .slice LA R lcap] 32)).alloc (.cells #[.int .u64 0, .int .i64 0, .int .i64 0, .slice none 0 0, .int .u64 0, .int .i64 0, .slice none 0 0] 32)) w.heap.size 32 #[.int .u64 S, .int .i64 room, .int .i64 votes, .slice (some ⟨bb, o, none⟩) n cap, .int .u64 LS, .int .i64 LM, .slice LA R lcap]) := (Blk.new _ _ _).alloc _
  have KR : Hid (Blk ((w.alloc (.cells #[.int .u64 S, .int .i64 room, .int .i64 votes, .slice (some ⟨bb, o, none⟩) n cap, .int .u64 LS, .int .i64 LM, .slice LA R lcap] 32)).alloc (.cells #[.int .u64 0, .int .i64 0, .int .i64 0, .slice none 0 0, .int .u64 0, .int .i64 0, .slice none 0 0] 32)) (w.heap.size + 1) 32 #[.int .u64 0, .int .i64 0, .int .i64 0, .slice none 0 0, .int .u64 0, .int .i64 0, .slice none 0 0]) := by
    have e := Blk.new (w.alloc (.cells #[.int .u64 S, .int .i64 room, .int .i64 votes, .slice (some ⟨bb, o, none⟩) n cap, .int .u64 LS, .int .i64 LM, .slice LA R lcap] 32)) 32 #[.int .u64 0, .int .i64 0, .int .i64 0, .slice none 0 0, .int .u64 0, .int .i64 0, .slice none 0 0]
    simp only [World.size_alloc] at e
    exact e
  have pb : (p : Int) < (n : Int) := by omega
  have p0 : (0 : Int) ≤ (p : Int) := by omega
  have Q1 := hidE q1
  have Q2 := hidE q2
  clear hb re h5 h6 hm q1 q2 hc2
  go_enter Try.func19, Try.ntmps19
  go_wp2_with fail
  generalize ((w.alloc (.cells #[.int .u64 S, .int .i64 room, .int .i64 votes, .slice (some ⟨bb, o, none⟩) n cap, .int .u64 LS, .int .i64 LM, .slice LA R lcap] 32)).alloc (.cells #[.int .u64 0, .int .i64 0, .int .i64 0, .slice none 0 0, .int .u64 0, .int .i64 0, .slice none 0 0] 32)) = X at BX KX KR ⊢
  refine (PC.out _ BX.out).mono ?_
  rintro e u1 ⟨rfl, b1⟩
  have B1 := hidE (bel_trans BX.out b1)
  have K1 := hidE (KX.out.since b1)
  have R1 := hidE (KR.out.since b1)
  have x3 : u1.cell? ⟨w.heap.size, 3, none⟩ = some (.slice (some ⟨bb, o, none⟩) n cap) := K1.out.cell 3
  have q1 := keep_of_below B1.out _ _ Q1.out
  have q2 := keep_of_below B1.out _ _ Q2.out
  have BA : Hid (Below u1.heap.size u1 (u1.alloc (.cells #[.slice (some ⟨be, oe, none⟩) m cp2, .int .i64 ag] 74))) := bel_alloc _ _
  have KA : Hid (Blk (u1.alloc (.cells #[.slice (some ⟨be, oe, none⟩) m cp2, .int .i64 ag] 74)) u1.heap.size 74 #[.slice (some ⟨be, oe, none⟩) m cp2, .int .i64 ag]) := Blk.new _ _ _
  clear b1 BX KX KR PC
  go_wp2_with fail
  have B2 := hidE (bel_trans B1.out BA.out)
  have K2 := hidE (K1.out.since BA.out)
  have R2 := hidE (R1.out.since BA.out)
  have G7 : Hid (w.heap.size + 1 < u1.heap.size) := R1.out.lt
  clear x3 q1 q2 BA B1 K1 R1 Q1 Q2
  generalize (u1.alloc (.cells #[.slice (some ⟨be, oe, none⟩) m cp2, .int .i64 ag] 74)) = Y at KA B2 K2 R2 ⊢
  generalize u1.heap.size = g7 at KA G7 ⊢
  refine (EA.out _ B2.out).mono ?_
  rintro e u2 ⟨rfl, b2⟩
  have B3 := hidE (bel_trans B2.out b2)
  have K3 := hidE (K2.out.since b2)
  have R3 := hidE (R2.out.since b2)
  have K7 := hidE (KA.out.since b2)
  clear b2 B2 K2 R2 KA EA
  have y0 : u2.cell? ⟨g7, 0, none⟩ = some (.slice (some ⟨be, oe, none⟩) m cp2) := K7.out.cell 0
  have p1 := keep_of_below B3.out _ _ P1.out
  have p2 := keep_of_below B3.out _ _ P2.out
  have p3 := keep_of_below B3.out _ _ P3.out
  have BQ : Hid (Below w.heap.size w (u2.alloc (.cells #[.string k, .int .i64 (d + 1), .bool f] 77))) := bel_trans B3.out (bel_alloc _ _)
  have RQ : Hid (Blk (u2.alloc (.cells #[.string k, .int .i64 (d + 1), .bool f] 77)) (w.heap.size + 1) 32 #[.int .u64 0, .int .i64 0, .int .i64 0, .slice none 0 0, .int .u64 0, .int .i64 0, .slice none 0 0]) := R3.out.alloc _
  have r0 : (u2.alloc (.cells #[.string k, .int .i64 (d + 1), .bool f] 77)).cell? ⟨w.heap.size + 1, 0, none⟩ = some (.int .u64 0) := RQ.out.cell 0
  have r1 : (u2.alloc (.cells #[.string k, .int .i64 (d + 1), .bool f] 77)).cell? ⟨w.heap.size + 1, 1, none⟩ = some (.int .i64 0) := RQ.out.cell 1
  have r2 : (u2.alloc (.cells #[.string k, .int .i64 (d + 1), .bool f] 77)).cell? ⟨w.heap.size + 1, 2, none⟩ = some (.int .i64 0) := RQ.out.cell 2
  have r3 : (u2.alloc (.cells #[.string k, .int .i64 (d + 1), .bool f] 77)).cell? ⟨w.heap.size + 1, 3, none⟩ = some (.slice none 0 0) := RQ.out.cell 3
  have r4 : (u2.alloc (.cells #[.string k, .int .i64 (d + 1), .bool f] 77)).cell? ⟨w.heap.size + 1, 4, none⟩ = some (.int .u64 0) := RQ.out.cell 4
  have r5 : (u2.alloc (.cells #[.string k, .int .i64 (d + 1), .bool f] 77)).cell? ⟨w.heap.size + 1, 5, none⟩ = some (.int .i64 0) := RQ.out.cell 5
  have r6 : (u2.alloc (.cells #[.string k, .int .i64 (d + 1), .bool f] 77)).cell? ⟨w.heap.size + 1, 6, none⟩ = some (.slice none 0 0) := RQ.out.cell 6
  have z0 := RQ.out.frozen 0
  have z1 := RQ.out.frozen 1
  have z2 := RQ.out.frozen 2
  have z3 := RQ.out.frozen 3
  have z4 := RQ.out.frozen 4
  have z5 := RQ.out.frozen 5
  have z6 := RQ.out.frozen 6
  go_wp2_with fail
  refine bodyPost_ret (v := .tuple #[.agg #[.int .u64 0, .int .i64 0, .int .i64 0, .slice none 0 0, .int .u64 0, .int .i64 0, .slice none 0 0], .bool false]) ?_ rfl ?_
  rotate_left
  · exact ⟨rfl, eput7_below BQ.out (by omega) _ _ _ _ _ _ _⟩
  have c3 := eput7_blk (t := 32) RQ.out (.int .u64 0) (.int .i64 0) (.int .i64 0) (.slice none 0 0) (.int .u64 0) (.int .i64 0) (.slice none 0 0)
  have c30 := c3.cell 0
  have c31 := c3.cell 1
  have c32 := c3.cell 2
  have c33 := c3.cell 3
  have c34 := c3.cell 4
  have c35 := c3.cell 5
  have c36 := c3.cell 6
  change (results _ _).run _ (eput7 (u2.alloc (.cells #[.string k, .int .i64 (d + 1), .bool f] 77)) (w.heap.size + 1) (.int .u64 0) (.int .i64 0) (.int .i64 0) (.slice none 0 0) (.int .u64 0) (.int .i64 0) (.slice none 0 0)) = .ok _ (eput7 (u2.alloc (.cells #[.string k, .int .i64 (d + 1), .bool f] 77)) (w.heap.size + 1) (.int .u64 0) (.int .i64 0) (.int .i64 0) (.slice none 0 0) (.int .u64 0) (.int .i64 0) (.slice none 0 0))
  generalize eput7 (u2.alloc (.cells #[.string k, .int .i64 (d + 1), .bool f] 77)) (w.heap.size + 1) (.int .u64 0) (.int .i64 0) (.int .i64 0) (.slice none 0 0) (.int .u64 0) (.int .i64 0) (.slice none 0 0) = W5 at c30 c31 c32 c33 c34 c35 c36
  simp [results, Try.results19, go_sem, c30, c31, c32, c33, c34, c35, c36]
set_option maxHeartbeats 6400000 in
theorem eradd_at (w : World) (S room votes LS LM : Int) (LA : Option Addr) (bb o n cap R lcap p c : Nat) (bs : List Bkt) (b : Bkt) (Z : Nat → Nat → Int) (s : ByteArray) (PC : Hid (∀ u, Below w.heap.size w u → Calls Try.prog 26 #[.agg #[.int .u64 S, .int .i64 room, .int .i64 votes, .slice (some ⟨bb, o, none⟩) n cap, .int .u64 LS, .int .i64 LM, .slice LA R lcap], .string s] u fun e w' => e = .returned (.int .i64 (p : Int)) ∧ Below u.heap.size u w')) (H4 : Hid (∀ (i : Nat) (x : Bkt), bs[i]? = some x → ∃ ev, w.cell? ⟨bb, o + i * 2, none⟩ = some ev ∧ w.cell? ⟨bb, o + i * 2 + 1, none⟩ = some (.int .i64 x.ag) ∧ EntsE w ev x.es)) (HN : Hid (n = bs.length)) (HR : Hid (RowsI w (.slice LA R lcap) R (fun _ => c) Z)) (pn : p < n) (n1 : n ≤ 256) (hb : bs[p]? = some b) (rb : RightB room b) (r1 : 1 ≤ room) (r8 : room ≤ 8) (v1 : 1 ≤ votes) (v2 : votes ≤ 64) (i : Nat) (e : Ent) (ga : atE b.es s = some i) (ge : b.es[i]? = some e) (dm : ¬ e.v + 1 > 1099511627776) :
    Calls Try.prog 19 #[.agg #[.int .u64 S, .int .i64 room, .int .i64 votes, .slice (some ⟨bb, o, none⟩) n cap, .int .u64 LS, .int .i64 LM, .slice LA R lcap], .string s] w fun e' w' => ∃ x', e' = .returned (.tuple #[x', .bool true]) ∧ ElAt w' x' ⟨S, room, votes, bs.set p ⟨b.es.set i ⟨e.k, e.v + 1, e.f⟩, b.ag⟩, LS, LM, R, fun _ => c, Z⟩ ∧ Below w.heap.size w w' := by
  obtain ⟨es, ag⟩ := b
  have HB := hidE hb
  obtain ⟨rl, ra0, ra1, re⟩ := rb
  simp only at rl ra0 ra1 re
  have RE := hidE re
  obtain ⟨ev, q1, q2, q3⟩ := H4.out p _ hb
  simp only at q2 q3
  have EA := hidE fun u (z : Below w.heap.size w u) => eat_any u ev ag es s (q3.keep (keep_of_below z)) (by omega)
  have HE0 := hidE q3
  obtain ⟨A2, cp2, be, oe, rfl, hc2, h5, h6⟩ := q3
  have H5 := hidE h5
  have H6 := hidE h6
  obtain ⟨m, hm⟩ : ∃ m, m = es.length := ⟨_, rfl⟩
  have HM := hidE hm
  rw [← hm] at EA q1 hc2 rl HE0
  rw [atI_some ga] at EA
  obtain ⟨k, d, f⟩ := e
  simp only at dm ⊢
  have re := RE.out i _ ge
  simp only at re
  have il : i < m := by rw [HM.out]; exact (List.getElem?_eq_some_iff.1 ge).1
  have bi : (i : Int) < (m : Int) := by omega
  have bi0 : (i : Int) ≥ 0 := by omega
  have bi1 : (0 : Int) ≤ (i : Int) := by omega
  obtain rfl := H5.out (by rw [← HM.out]; omega)
  obtain ⟨p1, p2, p3⟩ := H6.out i _ ge
  simp only at p1 p2 p3
  have d1 := re.1
  have d2 := re.2.1
  have P1 := hidE p1
  have P2 := hidE p2
  have P3 := hidE p3
  clear ga ge re p1 p2 p3
  have BX : Hid (Below w.heap.size w ((w.alloc (.cells #[.int .u64 S, .int .i64 room, .int .i64 votes, .slice (some ⟨bb, o, none⟩) n cap, .int .u64 LS, .int .i64 LM, .slice LA R lcap] 32)).alloc (.cells #[.int .u64 0, .int .i64 0, .int .i64 0, .slice none 0 0, .int .u64 0, .int .i64 0, .slice none 0 0] 32))) := (bel_alloc _ _).alloc (by simp) _
  have KX : Hid (Blk ((w.alloc (.cells #[.int .u64 S, .int .i64 room, .int .i64 votes, .slice (some ⟨bb, o, none⟩) n cap, .int .u64 LS, .int .i64 LM, .slice LA R lcap] 32)).alloc (.cells #[.int .u64 0, .int .i64 0, .int .i64 0, .slice none 0 0, .int .u64 0, .int .i64 0, .slice none 0 0] 32)) w.heap.size 32 #[.int .u64 S, .int .i64 room, .int .i64 votes, .slice (some ⟨bb, o, none⟩) n cap, .int .u64 LS, .int .i64 LM, .slice LA R lcap]) := (Blk.new _ _ _).alloc _
  have KR : Hid (Blk ((w.alloc (.cells #[.int .u64 S, .int .i64 room, .int .i64 votes, .slice (some ⟨bb, o, none⟩) n cap, .int .u64 LS, .int .i64 LM, .slice LA R lcap] 32)).alloc (.cells #[.int .u64 0, .int .i64 0, .int .i64 0, .slice none 0 0, .int .u64 0, .int .i64 0, .slice none 0 0] 32)) (w.heap.size + 1) 32 #[.int .u64 0, .int .i64 0, .int .i64 0, .slice none 0 0, .int .u64 0, .int .i64 0, .slice none 0 0]) := by
    have e := Blk.new (w.alloc (.cells #[.int .u64 S, .int .i64 room, .int .i64 votes, .slice (some ⟨bb, o, none⟩) n cap, .int .u64 LS, .int .i64 LM, .slice LA R lcap] 32)) 32 #[.int .u64 0, .int .i64 0, .int .i64 0, .slice none 0 0, .int .u64 0, .int .i64 0, .slice none 0 0]
    simp only [World.size_alloc] at e
    exact e
  have pb : (p : Int) < (n : Int) := by omega
  have p0 : (0 : Int) ≤ (p : Int) := by omega
  have Q1 := hidE q1
  have Q2 := hidE q2
  clear hb re h5 h6 hm q1 q2 hc2
  go_enter Try.func19, Try.ntmps19
  go_wp2_with fail
  generalize ((w.alloc (.cells #[.int .u64 S, .int .i64 room, .int .i64 votes, .slice (some ⟨bb, o, none⟩) n cap, .int .u64 LS, .int .i64 LM, .slice LA R lcap] 32)).alloc (.cells #[.int .u64 0, .int .i64 0, .int .i64 0, .slice none 0 0, .int .u64 0, .int .i64 0, .slice none 0 0] 32)) = X at BX KX KR ⊢
  refine (PC.out _ BX.out).mono ?_
  rintro e u1 ⟨rfl, b1⟩
  have B1 := hidE (bel_trans BX.out b1)
  have K1 := hidE (KX.out.since b1)
  have R1 := hidE (KR.out.since b1)
  have x3 : u1.cell? ⟨w.heap.size, 3, none⟩ = some (.slice (some ⟨bb, o, none⟩) n cap) := K1.out.cell 3
  have q1 := keep_of_below B1.out _ _ Q1.out
  have q2 := keep_of_below B1.out _ _ Q2.out
  have BA : Hid (Below u1.heap.size u1 (u1.alloc (.cells #[.slice (some ⟨be, oe, none⟩) m cp2, .int .i64 ag] 74))) := bel_alloc _ _
  have KA : Hid (Blk (u1.alloc (.cells #[.slice (some ⟨be, oe, none⟩) m cp2, .int .i64 ag] 74)) u1.heap.size 74 #[.slice (some ⟨be, oe, none⟩) m cp2, .int .i64 ag]) := Blk.new _ _ _
  clear b1 BX KX KR PC
  go_wp2_with fail
  have B2 := hidE (bel_trans B1.out BA.out)
  have K2 := hidE (K1.out.since BA.out)
  have R2 := hidE (R1.out.since BA.out)
  have G7 : Hid (w.heap.size + 1 < u1.heap.size) := R1.out.lt
  clear x3 q1 q2 BA B1 K1 R1 Q1 Q2
  generalize (u1.alloc (.cells #[.slice (some ⟨be, oe, none⟩) m cp2, .int .i64 ag] 74)) = Y at KA B2 K2 R2 ⊢
  generalize u1.heap.size = g7 at KA G7 ⊢
  refine (EA.out _ B2.out).mono ?_
  rintro e u2 ⟨rfl, b2⟩
  have B3 := hidE (bel_trans B2.out b2)
  have K3 := hidE (K2.out.since b2)
  have R3 := hidE (R2.out.since b2)
  have K7 := hidE (KA.out.since b2)
  clear b2 B2 K2 R2 KA EA
  have y0 : u2.cell? ⟨g7, 0, none⟩ = some (.slice (some ⟨be, oe, none⟩) m cp2) := K7.out.cell 0
  have p1 := keep_of_below B3.out _ _ P1.out
  have p2 := keep_of_below B3.out _ _ P2.out
  have p3 := keep_of_below B3.out _ _ P3.out
  have BQ : Hid (Below w.heap.size w (u2.alloc (.cells #[.string k, .int .i64 (d + 1), .bool f] 77))) := bel_trans B3.out (bel_alloc _ _)
  have RQ : Hid (Blk (u2.alloc (.cells #[.string k, .int .i64 (d + 1), .bool f] 77)) (w.heap.size + 1) 32 #[.int .u64 0, .int .i64 0, .int .i64 0, .slice none 0 0, .int .u64 0, .int .i64 0, .slice none 0 0]) := R3.out.alloc _
  have KQ : Hid (Blk (u2.alloc (.cells #[.string k, .int .i64 (d + 1), .bool f] 77)) w.heap.size 32 #[.int .u64 S, .int .i64 room, .int .i64 votes, .slice (some ⟨bb, o, none⟩) n cap, .int .u64 LS, .int .i64 LM, .slice LA R lcap]) := K3.out.alloc _
  have K7Q : Hid (Blk (u2.alloc (.cells #[.string k, .int .i64 (d + 1), .bool f] 77)) g7 74 #[.slice (some ⟨be, oe, none⟩) m cp2, .int .i64 ag]) := K7.out.alloc _
  have z0 : (u2.alloc (.cells #[.string k, .int .i64 (d + 1), .bool f] 77)).cell? ⟨g7, 0, none⟩ = some (.slice (some ⟨be, oe, none⟩) m cp2) := K7Q.out.cell 0
  have CP := hidE (eput_any (u2.alloc (.cells #[.string k, .int .i64 (d + 1), .bool f] 77)) (.slice (some ⟨be, oe, none⟩) m cp2) es i ⟨k, d + 1, f⟩ (HE0.out.keep (keep_of_below BQ.out)) (by have := HM.out; omega))
  go_wp2_with fail
  clear p1 p2 p3 y0
  generalize (u2.alloc (.cells #[.string k, .int .i64 (d + 1), .bool f] 77)) = Q at BQ RQ KQ K7Q CP z0 ⊢
  refine CP.out.mono ?_
  rintro e u4 ⟨v9, rfl, hg9⟩
  obtain ⟨A9, c9, e9⟩ := own_slice hg9.own
  rw [List.length_set, ← HM.out] at e9
  subst e9
  have b4 := hg9.since
  have HEN0 := hidE (hg9.held (D := fun q => q ≠ w.heap.size ∧ q ≠ w.heap.size + 1 ∧ q ≠ g7) fun q hq _ => by
    have := RQ.out.lt
    have := K7Q.out.lt
    exact ⟨by omega, by omega, by omega⟩)
  have BT0 := hidE (bel_trans BQ.out b4)
  have KT0 := hidE (KQ.out.since b4)
  have RT0 := hidE (RQ.out.since b4)
  have K70 := hidE (K7Q.out.since b4)
  have GX := G7.out
  have BT : Hid (Below w.heap.size w (u4.setCell ⟨g7, 0, none⟩ (.slice A9 m c9))) := BT0.out.setCell (p := ⟨g7, 0, none⟩) (by show w.heap.size ≤ g7; omega) _
  have KT : Hid (Blk (u4.setCell ⟨g7, 0, none⟩ (.slice A9 m c9)) w.heap.size 32 #[.int .u64 S, .int .i64 room, .int .i64 votes, .slice (some ⟨bb, o, none⟩) n cap, .int .u64 LS, .int .i64 LM, .slice LA R lcap]) := KT0.out.other (a := ⟨g7, 0, none⟩) (by show w.heap.size ≠ g7; omega) _
  have RT : Hid (Blk (u4.setCell ⟨g7, 0, none⟩ (.slice A9 m c9)) (w.heap.size + 1) 32 #[.int .u64 0, .int .i64 0, .int .i64 0, .slice none 0 0, .int .u64 0, .int .i64 0, .slice none 0 0]) := RT0.out.other (a := ⟨g7, 0, none⟩) (by show w.heap.size + 1 ≠ g7; omega) _
  have K7T : Hid (Blk (u4.setCell ⟨g7, 0, none⟩ (.slice A9 m c9)) g7 74 #[.slice A9 m c9, .int .i64 ag]) := hidE (by
    have e := K70.out.set 0 (.slice A9 m c9)
    simpa using e)
  have HENT : Hid (Held (fun q => q ≠ w.heap.size ∧ q ≠ w.heap.size + 1) (fun u => EntsE u (.slice A9 m c9) (⟨es.set i ⟨k, d + 1, f⟩, ag⟩ : Bkt).es) (u4.setCell ⟨g7, 0, none⟩ (.slice A9 m c9))) := (HEN0.out.same (Same.setCell (a := ⟨g7, 0, none⟩) (fun d => d.2.2 rfl) _)).mono fun q _ d => ⟨d.1, d.2.1⟩
  have HLT : Hid (Held (fun q => q ≠ w.heap.size ∧ q ≠ w.heap.size + 1) (fun u => RowsI u (.slice LA R lcap) R (fun _ => c) Z) (u4.setCell ⟨g7, 0, none⟩ (.slice A9 m c9))) := (HR.out.heldD (D := (fun q => q ≠ w.heap.size ∧ q ≠ w.heap.size + 1)) fun q hq => ⟨by omega, by omega⟩).since BT.out
  have z1 : u4.cell? ⟨g7, 0, none⟩ = some (.slice (some ⟨be, oe, none⟩) m cp2) := K70.out.cell 0
  have f1 := K70.out.frozen 0
  clear z0 CP hg9 b4 HEN0 BT0 KT0 RT0 K70 GX BQ RQ KQ K7Q B3 K3 R3 K7 HE0
  go_upto_region 28 with fail
  clear z1 f1
  generalize u4.setCell ⟨g7, 0, none⟩ (.slice A9 m c9) = tw at BT KT RT K7T HENT HLT ⊢
  have SZT : Hid (w.heap.size + 1 < tw.heap.size ∧ g7 < tw.heap.size) := ⟨RT.out.lt, K7T.out.lt⟩
  obtain ⟨ib, hib, hz0, hz1, hz2⟩ := infoRB
  have HTB : Hid (Try.prog.info? 74 = some ib ∧ ib.zero = some (.agg #[.slice none 0 0, .int .i64 0]) ∧ ib.size = 2 ∧ ib.bytes = 32) := ⟨hib, hz0, hz1, hz2⟩
  clear hib hz0 hz1 hz2
  have BSL : Hid ((bs.set p ⟨es.set i ⟨k, d + 1, f⟩, ag⟩).length = n) := hidE (by rw [List.length_set]; exact HN.out.symm)
  have BSP : Hid ((bs.set p ⟨es.set i ⟨k, d + 1, f⟩, ag⟩)[p]? = some ⟨es.set i ⟨k, d + 1, f⟩, ag⟩) := hidE (by rw [List.getElem?_set, if_pos rfl, if_pos (by have := HN.out; omega)])
  have BSO : Hid (∀ jj, jj ≠ p → (bs.set p ⟨es.set i ⟨k, d + 1, f⟩, ag⟩)[jj]? = bs[jj]?) := hidE fun jj hi => by rw [List.getElem?_set, if_neg (fun z => hi z.symm)]
  obtain ⟨BS, hBS⟩ : ∃ BS, BS = bs.set p ⟨es.set i ⟨k, d + 1, f⟩, ag⟩ := ⟨_, rfl⟩
  have HBS := hidE hBS
  rw [← hBS] at BSL BSP BSO
  clear hBS
  have R0 : Hid (RgB (fun q => q ≠ w.heap.size ∧ q ≠ w.heap.size + 1) w tw tw (.slice none 0 0) (BS.take 0)) := ⟨BT.out, Nat.le_refl _, fun q hq => by have := SZT.out; exact ⟨by omega, by omega⟩, [], rfl, World.ownsRow_nil _ _ _ _, fun i x ev h => by simp at h⟩
  go_wp2_with fail
  go_loopg [14, 15] n (fun gk s14 i wr => ∃ (k m : Nat) (A5 : Option Addr) (c5 : Nat), (gk = n - k ∧ k ≤ n ∧ RgB (fun q => q ≠ w.heap.size ∧ q ≠ w.heap.size + 1) w tw wr (.slice A5 m c5) (BS.take k) ∧ Below tw.heap.size tw wr) ∧ s14 = .slice A5 m c5 ∧ i = .int .i64 (k : Int))
  case atStart => exact ⟨0, 0, none, 0, ⟨rfl, by omega, R0.out, Below.refl _ _⟩, rfl, rfl⟩
  case round =>
    clear R0
    obtain ⟨kk, mm, A5, c5, ⟨hgk, hk, hG, hB⟩, rfl, rfl⟩ := hrel
    have HK := hidE hgk
    have HG := hidE hG
    have HBW := hidE hB
    have x3 : wr.cell? ⟨w.heap.size, 3, none⟩ = some (.slice (some ⟨bb, o, none⟩) n cap) := (KT.out.since hB).cell 3
    clear hgk hG hB
    have TL : Hid (mm = (BS.take kk).length) := by
      obtain ⟨A9, c9, e9⟩ := HG.out.slice
      cases e9
      rfl
    have TM : Hid (mm = kk) := by have e := TL.out; rw [List.length_take, BSL.out] at e; show mm = kk; omega
    by_cases hz : kk < n
    · have bk : (kk : Int) < (n : Int) := by omega
      have bk0 : (0 : Int) ≤ (kk : Int) := by omega
      obtain ⟨vs, vl, own, vx⟩ := id HG.out.row
      have HVX := hidE vx
      have HVL := hidE vl
      have OWB := hidE own
      have OWM : Hid (wr.ownsRow tw.heap.size 74 2 (.slice A5 mm c5) mm (bCells (vs.zip ((BS.take kk).map Bkt.ag)))) := by
        have e := OWB.out
        rw [← TL.out] at e
        exact e
      have SZ : Hid (tw.heap.size ≤ wr.heap.size) := HG.out.size
      have mb : mm ≤ 256 := by have := TM.out; omega
      clear vx vl own
      by_cases kp : kk = p
      · have qk : ((kk : Int) == (p : Int)) = true := by rw [kp]; simp
        have NX : Hid (BS.take (kk + 1) = BS.take kk ++ [⟨es.set i ⟨k, d + 1, f⟩, ag⟩]) := hidE (take_nextE (by rw [kp]; exact BSP.out))
        have y0 : wr.cell? ⟨g7, 0, none⟩ = some (.slice A9 m c9) := (K7T.out.since HBW.out).cell 0
        have y1 : wr.cell? ⟨g7, 1, none⟩ = some (.int .i64 (ag)) := (K7T.out.since HBW.out).cell 1
        have HEW : Hid (Held (fun q => q ≠ w.heap.size ∧ q ≠ w.heap.size + 1 ∧ some q ≠ (Value.slice A5 mm c5).ownBlock) (fun u => EntsE u (.slice A9 m c9) (⟨es.set i ⟨k, d + 1, f⟩, ag⟩ : Bkt).es) wr) := hidE fun u e => HENT.out u ⟨by have := e.1; have := SZ.out; omega, fun q d hq => (e.2 q ⟨d.1, d.2, fun z => by have := (OWB.out.lt q z.symm).1; omega⟩ (by have := SZ.out; omega)).trans (HBW.out.block q hq)⟩
        clear kp
        go_wp2_with (at_builtin; refine wpList_append_lies _ rfl _ _ _ rfl tw.heap.size 74 ib (.agg #[.slice none 0 0, .int .i64 0]) 2 32 Try.underlying29 HTB.out.1 HTB.out.2.1 HTB.out.2.2.1 HTB.out.2.2.2 rfl (by omega) (.slice A5 mm c5) mm (bCells (vs.zip ((BS.take kk).map Bkt.ag))) (by rfl) (OWM.out.alloc _) ⟨wr.heap.size, 0, none⟩ 1 1 [.slice A9 m c9, .int .i64 (ag)] (by rfl) rfl (new_it wr 74 _ _) (by intro z hz; simp at hz; rcases hz with rfl | rfl <;> rfl) (by omega) (by unfold maxLen; omega) (by omega) (by have := SZ.out; simp; omega) _ rfl ?_; intro gq cap1 w1 hown1 hgrow hat hlt1)
        have HEW2 : Held (fun q => (q ≠ w.heap.size ∧ q ≠ w.heap.size + 1) ∧ some q ≠ (Value.slice A5 mm c5).ownBlock) (fun u => EntsE u (.slice A9 m c9) (⟨es.set i ⟨k, d + 1, f⟩, ag⟩ : Bkt).es) wr := HEW.out.mono fun q _ d => ⟨⟨d.1, d.2.1⟩, d.2.2⟩
        have HS := HG.out.step (x := ⟨es.set i ⟨k, d + 1, f⟩, ag⟩) (ev := .slice A9 m c9) vs HVL.out OWB.out HVX.out HEW2 (by have := SZT.out; omega) (by
          have e := hown1
          rw [← TL.out]
          exact e) hgrow (hat.imp id fun z => by rw [z]; simp)
        rw [← TL.out] at HS
        have B9 : Below tw.heap.size tw w1 := (HBW.out.alloc SZ.out _).grown hgrow (by have := SZ.out; simp; omega) (fun q hq => (OWB.out.lt q hq).1)
        go_roundg (n - (kk + 1))
        case measure => have := HK.out; omega
        case rel => exact ⟨kk + 1, mm + 1, _, cap1, ⟨rfl, by omega, by rw [NX.out]; exact HS, B9⟩, rfl, by go_num⟩
      · have qk : ((kk : Int) == (p : Int)) = false := by simp; omega
        obtain ⟨y, hy⟩ : ∃ y, bs[kk]? = some y := ⟨_, List.getElem?_eq_getElem (by have := HN.out; omega)⟩
        have NX : Hid (BS.take (kk + 1) = BS.take kk ++ [y]) := hidE (take_nextE (by rw [BSO.out kk kp]; exact hy))
        obtain ⟨ev9, c1, c2, c3⟩ := H4.out kk y hy
        have c1 := keep_of_below (bel_trans BT.out HBW.out) _ _ c1
        have c2 := keep_of_below (bel_trans BT.out HBW.out) _ _ c2
        have HEW : Hid (Held (fun q => q ≠ w.heap.size ∧ q ≠ w.heap.size + 1 ∧ some q ≠ (Value.slice A5 mm c5).ownBlock) (fun u => EntsE u ev9 y.es) wr) := hidE fun u e => c3.keep (Same.keep ⟨by have := e.1; have := (bel_trans BT.out HBW.out).size; omega, fun q _ hq => (e.2 q ⟨by omega, by omega, fun z => by have := (OWB.out.lt q z.symm).1; have := SZT.out; omega⟩ (by have := (bel_trans BT.out HBW.out).size; omega)).trans ((bel_trans BT.out HBW.out).block q hq)⟩)
        obtain ⟨A8, c8, b8, o8, rfl, _⟩ := c3
        obtain ⟨m8, hm8⟩ : ∃ m8, m8 = y.es.length := ⟨_, rfl⟩
        have HM8 := hidE hm8
        obtain ⟨ag8, hag8⟩ : ∃ ag8, ag8 = y.ag := ⟨_, rfl⟩
        have HAG8 := hidE hag8
        rw [← hm8] at c1 HEW
        rw [← hag8] at c2
        clear hy hm8 hag8 kp
        go_wp2_with (at_builtin; refine wpList_append_lies _ rfl _ _ _ rfl tw.heap.size 74 ib (.agg #[.slice none 0 0, .int .i64 0]) 2 32 Try.underlying29 HTB.out.1 HTB.out.2.1 HTB.out.2.2.1 HTB.out.2.2.2 rfl (by omega) (.slice A5 mm c5) mm (bCells (vs.zip ((BS.take kk).map Bkt.ag))) (by rfl) (OWM.out.alloc _) ⟨wr.heap.size, 0, none⟩ 1 1 [.slice A8 m8 c8, .int .i64 (ag8)] (by rfl) rfl (new_it wr 74 _ _) (by intro z hz; simp at hz; rcases hz with rfl | rfl <;> rfl) (by omega) (by unfold maxLen; omega) (by omega) (by have := SZ.out; simp; omega) _ rfl ?_; intro gq cap1 w1 hown1 hgrow hat hlt1)
        have HEW2 : Held (fun q => (q ≠ w.heap.size ∧ q ≠ w.heap.size + 1) ∧ some q ≠ (Value.slice A5 mm c5).ownBlock) (fun u => EntsE u (.slice A8 m8 c8) (y : Bkt).es) wr := HEW.out.mono fun q _ d => ⟨⟨d.1, d.2.1⟩, d.2.2⟩
        have HS := HG.out.step (x := y) (ev := .slice A8 m8 c8) vs HVL.out OWB.out HVX.out HEW2 (by have := SZT.out; omega) (by
          have e := hown1
          rw [← TL.out]
          rw [HAG8.out] at e
          exact e) hgrow (hat.imp id fun z => by rw [z]; simp)
        rw [← TL.out] at HS
        have B9 : Below tw.heap.size tw w1 := (HBW.out.alloc SZ.out _).grown hgrow (by have := SZ.out; simp; omega) (fun q hq => (OWB.out.lt q hq).1)
        go_roundg (n - (kk + 1))
        case measure => have := HK.out; omega
        case rel => exact ⟨kk + 1, mm + 1, _, cap1, ⟨rfl, by omega, by rw [NX.out]; exact HS, B9⟩, rfl, by go_num⟩
    · have bk : ¬ (kk : Int) < (n : Int) := by omega
      have te : Hid (BS.take kk = BS) := hidE (List.take_of_length_le (by have := BSL.out; omega))
      have KW := hidE (KT.out.since HBW.out)
      have RW := hidE (RT.out.since HBW.out)
      have NL : Hid (mm = n) := by have := TM.out; show mm = n; omega
      have f3 := KW.out.frozen 3
      have KS : Hid (Blk (wr.setCell ⟨w.heap.size, 3, none⟩ (.slice A5 mm c5)) w.heap.size 32 #[.int .u64 S, .int .i64 room, .int .i64 votes, .slice A5 mm c5, .int .u64 LS, .int .i64 LM, .slice LA R lcap]) := set3_blk KW.out _
      have RS : Hid (Blk (wr.setCell ⟨w.heap.size, 3, none⟩ (.slice A5 mm c5)) (w.heap.size + 1) 32 #[.int .u64 0, .int .i64 0, .int .i64 0, .slice none 0 0, .int .u64 0, .int .i64 0, .slice none 0 0]) := RW.out.other (a := ⟨w.heap.size, 3, none⟩) (by show w.heap.size + 1 ≠ w.heap.size; omega) _
      have BS9 : Hid (Below w.heap.size w (wr.setCell ⟨w.heap.size, 3, none⟩ (.slice A5 mm c5))) := HG.out.since.setCell (p := ⟨w.heap.size, 3, none⟩) (Nat.le_refl _) _
      have SM9 : Hid (Same (fun q => q ≠ w.heap.size ∧ q ≠ w.heap.size + 1) wr (wr.setCell ⟨w.heap.size, 3, none⟩ (.slice A5 mm c5))) := Same.setCell (a := ⟨w.heap.size, 3, none⟩) (fun d => d.1 rfl) _
      have HBUC : Hid (Held (fun q => q ≠ w.heap.size ∧ q ≠ w.heap.size + 1) (fun u => BktsE u (.slice A5 mm c5) BS) (wr.setCell ⟨w.heap.size, 3, none⟩ (.slice A5 mm c5))) := by
        have e := HG.out.bkts
        rw [te.out] at e
        exact e.same SM9.out
      have HL9 : Hid (Held (fun q => q ≠ w.heap.size ∧ q ≠ w.heap.size + 1) (fun u => RowsI u (.slice LA R lcap) R (fun _ => c) Z) (wr.setCell ⟨w.heap.size, 3, none⟩ (.slice A5 mm c5))) := (HLT.out.since HBW.out).same SM9.out
      go_upto_region 36 with fail
      clear x3 f3
      generalize wr.setCell ⟨w.heap.size, 3, none⟩ (.slice A5 mm c5) = w9 at KS RS BS9 HBUC HL9 ⊢
      have x0 : w9.cell? ⟨w.heap.size, 0, none⟩ = some (.int .u64 S) := KS.out.cell 0
      have x1 : w9.cell? ⟨w.heap.size, 1, none⟩ = some (.int .i64 room) := KS.out.cell 1
      have x2 : w9.cell? ⟨w.heap.size, 2, none⟩ = some (.int .i64 votes) := KS.out.cell 2
      have x3 : w9.cell? ⟨w.heap.size, 3, none⟩ = some (.slice A5 mm c5) := KS.out.cell 3
      have x4 : w9.cell? ⟨w.heap.size, 4, none⟩ = some (.int .u64 LS) := KS.out.cell 4
      have x5 : w9.cell? ⟨w.heap.size, 5, none⟩ = some (.int .i64 LM) := KS.out.cell 5
      have x6 : w9.cell? ⟨w.heap.size, 6, none⟩ = some (.slice LA R lcap) := KS.out.cell 6
      have r0 : w9.cell? ⟨w.heap.size + 1, 0, none⟩ = some (.int .u64 0) := RS.out.cell 0
      have r1 : w9.cell? ⟨w.heap.size + 1, 1, none⟩ = some (.int .i64 0) := RS.out.cell 1
      have r2 : w9.cell? ⟨w.heap.size + 1, 2, none⟩ = some (.int .i64 0) := RS.out.cell 2
      have r3 : w9.cell? ⟨w.heap.size + 1, 3, none⟩ = some (.slice none 0 0) := RS.out.cell 3
      have r4 : w9.cell? ⟨w.heap.size + 1, 4, none⟩ = some (.int .u64 0) := RS.out.cell 4
      have r5 : w9.cell? ⟨w.heap.size + 1, 5, none⟩ = some (.int .i64 0) := RS.out.cell 5
      have r6 : w9.cell? ⟨w.heap.size + 1, 6, none⟩ = some (.slice none 0 0) := RS.out.cell 6
      have z0 := RS.out.frozen 0
      have z1 := RS.out.frozen 1
      have z2 := RS.out.frozen 2
      have z3 := RS.out.frozen 3
      have z4 := RS.out.frozen 4
      have z5 := RS.out.frozen 5
      have z6 := RS.out.frozen 6
      go_wp2_with fail
      refine bodyPost_ret (v := .tuple #[.agg #[.int .u64 S, .int .i64 room, .int .i64 votes, .slice A5 mm c5, .int .u64 LS, .int .i64 LM, .slice LA R lcap], .bool true]) ?_ rfl ?_
      rotate_left
      · refine ⟨_, rfl, ?_, eput7_below BS9.out (by omega) _ _ _ _ _ _ _⟩
        have sm : Same (fun q => q ≠ w.heap.size ∧ q ≠ w.heap.size + 1) w9 (eput7 w9 (w.heap.size + 1) (.int .u64 S) (.int .i64 room) (.int .i64 votes) (.slice A5 mm c5) (.int .u64 LS) (.int .i64 LM) (.slice LA R lcap)) := ⟨by rw [eput7_size]; exact Nat.le_refl _, fun q d hq => eput7_heap _ _ _ _ _ _ _ _ _ q d.2⟩
        have h1 := (HBUC.out.same sm).at
        have h2 := (HL9.out.same sm).at
        rw [HBS.out] at h1
        exact ⟨_, _, rfl, h1, h2⟩
      have c3 := eput7_blk (t := 32) RS.out (.int .u64 S) (.int .i64 room) (.int .i64 votes) (.slice A5 mm c5) (.int .u64 LS) (.int .i64 LM) (.slice LA R lcap)
      have c30 := c3.cell 0
      have c31 := c3.cell 1
      have c32 := c3.cell 2
      have c33 := c3.cell 3
      have c34 := c3.cell 4
      have c35 := c3.cell 5
      have c36 := c3.cell 6
      change (results _ _).run _ (eput7 w9 (w.heap.size + 1) (.int .u64 S) (.int .i64 room) (.int .i64 votes) (.slice A5 mm c5) (.int .u64 LS) (.int .i64 LM) (.slice LA R lcap)) = .ok _ (eput7 w9 (w.heap.size + 1) (.int .u64 S) (.int .i64 room) (.int .i64 votes) (.slice A5 mm c5) (.int .u64 LS) (.int .i64 LM) (.slice LA R lcap))
      generalize eput7 w9 (w.heap.size + 1) (.int .u64 S) (.int .i64 room) (.int .i64 votes) (.slice A5 mm c5) (.int .u64 LS) (.int .i64 LM) (.slice LA R lcap) = W5 at c30 c31 c32 c33 c34 c35 c36
      simp [results, Try.results19, go_sem, c30, c31, c32, c33, c34, c35, c36]
set_option maxHeartbeats 6400000 in
theorem eradd_room (w : World) (S room votes LS LM : Int) (LA : Option Addr) (bb o n cap R lcap p c : Nat) (bs : List Bkt) (b : Bkt) (Z : Nat → Nat → Int) (s : ByteArray) (PC : Hid (∀ u, Below w.heap.size w u → Calls Try.prog 26 #[.agg #[.int .u64 S, .int .i64 room, .int .i64 votes, .slice (some ⟨bb, o, none⟩) n cap, .int .u64 LS, .int .i64 LM, .slice LA R lcap], .string s] u fun e w' => e = .returned (.int .i64 (p : Int)) ∧ Below u.heap.size u w')) (H4 : Hid (∀ (i : Nat) (x : Bkt), bs[i]? = some x → ∃ ev, w.cell? ⟨bb, o + i * 2, none⟩ = some ev ∧ w.cell? ⟨bb, o + i * 2 + 1, none⟩ = some (.int .i64 x.ag) ∧ EntsE w ev x.es)) (HN : Hid (n = bs.length)) (HR : Hid (RowsI w (.slice LA R lcap) R (fun _ => c) Z)) (pn : p < n) (n1 : n ≤ 256) (hb : bs[p]? = some b) (rb : RightB room b) (r1 : 1 ≤ room) (r8 : room ≤ 8) (v1 : 1 ≤ votes) (v2 : votes ≤ 64) (ga : atE b.es s = none) (hr : (b.es.length : Int) < room) :
    Calls Try.prog 19 #[.agg #[.int .u64 S, .int .i64 room, .int .i64 votes, .slice (some ⟨bb, o, none⟩) n cap, .int .u64 LS, .int .i64 LM, .slice LA R lcap], .string s] w fun e w' => ∃ x', e = .returned (.tuple #[x', .bool true]) ∧ ElAt w' x' ⟨S, room, votes, bs.set p ⟨b.es ++ [⟨s, 1, false⟩], b.ag⟩, LS, LM, R, fun _ => c, Z⟩ ∧ Below w.heap.size w w' := by
  obtain ⟨it, hi, hz0, hz1, hz2⟩ := infoRET
  have HT : Hid (Try.prog.info? 77 = some it ∧ it.zero = some (.agg #[.string ⟨#[]⟩, .int .i64 0, .bool false]) ∧ it.size = 3 ∧ it.bytes = 32) := ⟨hi, hz0, hz1, hz2⟩
  clear hi hz0 hz1 hz2
  obtain ⟨es, ag⟩ := b
  have HB := hidE hb
  obtain ⟨rl, ra0, ra1, re⟩ := rb
  simp only at rl ra0 ra1 re
  have RE := hidE re
  obtain ⟨ev, q1, q2, q3⟩ := H4.out p _ hb
  simp only at q2 q3
  have EA := hidE fun u (z : Below w.heap.size w u) => eat_any u ev ag es s (q3.keep (keep_of_below z)) (by omega)
  have HE0 := hidE q3
  obtain ⟨A2, cp2, be, oe, rfl, hc2, h5, h6⟩ := q3
  have H5 := hidE h5
  have H6 := hidE h6
  obtain ⟨m, hm⟩ : ∃ m, m = es.length := ⟨_, rfl⟩
  have HM := hidE hm
  rw [← hm] at EA q1 hc2 rl HE0
  rw [atI_none ga] at EA
  have mr : (m : Int) < room := by have := HM.out; simp only at hr; omega
  have m1 : m ≤ 1000 := by omega
  clear ga hr
  have BX : Hid (Below w.heap.size w ((w.alloc (.cells #[.int .u64 S, .int .i64 room, .int .i64 votes, .slice (some ⟨bb, o, none⟩) n cap, .int .u64 LS, .int .i64 LM, .slice LA R lcap] 32)).alloc (.cells #[.int .u64 0, .int .i64 0, .int .i64 0, .slice none 0 0, .int .u64 0, .int .i64 0, .slice none 0 0] 32))) := (bel_alloc _ _).alloc (by simp) _
  have KX : Hid (Blk ((w.alloc (.cells #[.int .u64 S, .int .i64 room, .int .i64 votes, .slice (some ⟨bb, o, none⟩) n cap, .int .u64 LS, .int .i64 LM, .slice LA R lcap] 32)).alloc (.cells #[.int .u64 0, .int .i64 0, .int .i64 0, .slice none 0 0, .int .u64 0, .int .i64 0, .slice none 0 0] 32)) w.heap.size 32 #[.int .u64 S, .int .i64 room, .int .i64 votes, .slice (some ⟨bb, o, none⟩) n cap, .int .u64 LS, .int .i64 LM, .slice LA R lcap]) := (Blk.new _ _ _).alloc _
  have KR : Hid (Blk ((w.alloc (.cells #[.int .u64 S, .int .i64 room, .int .i64 votes, .slice (some ⟨bb, o, none⟩) n cap, .int .u64 LS, .int .i64 LM, .slice LA R lcap] 32)).alloc (.cells #[.int .u64 0, .int .i64 0, .int .i64 0, .slice none 0 0, .int .u64 0, .int .i64 0, .slice none 0 0] 32)) (w.heap.size + 1) 32 #[.int .u64 0, .int .i64 0, .int .i64 0, .slice none 0 0, .int .u64 0, .int .i64 0, .slice none 0 0]) := by
    have e := Blk.new (w.alloc (.cells #[.int .u64 S, .int .i64 room, .int .i64 votes, .slice (some ⟨bb, o, none⟩) n cap, .int .u64 LS, .int .i64 LM, .slice LA R lcap] 32)) 32 #[.int .u64 0, .int .i64 0, .int .i64 0, .slice none 0 0, .int .u64 0, .int .i64 0, .slice none 0 0]
    simp only [World.size_alloc] at e
    exact e
  have pb : (p : Int) < (n : Int) := by omega
  have p0 : (0 : Int) ≤ (p : Int) := by omega
  have Q1 := hidE q1
  have Q2 := hidE q2
  clear hb re h5 h6 hm q1 q2 hc2
  go_enter Try.func19, Try.ntmps19
  go_wp2_with fail
  generalize ((w.alloc (.cells #[.int .u64 S, .int .i64 room, .int .i64 votes, .slice (some ⟨bb, o, none⟩) n cap, .int .u64 LS, .int .i64 LM, .slice LA R lcap] 32)).alloc (.cells #[.int .u64 0, .int .i64 0, .int .i64 0, .slice none 0 0, .int .u64 0, .int .i64 0, .slice none 0 0] 32)) = X at BX KX KR ⊢
  refine (PC.out _ BX.out).mono ?_
  rintro e u1 ⟨rfl, b1⟩
  have B1 := hidE (bel_trans BX.out b1)
  have K1 := hidE (KX.out.since b1)
  have R1 := hidE (KR.out.since b1)
  have x3 : u1.cell? ⟨w.heap.size, 3, none⟩ = some (.slice (some ⟨bb, o, none⟩) n cap) := K1.out.cell 3
  have q1 := keep_of_below B1.out _ _ Q1.out
  have q2 := keep_of_below B1.out _ _ Q2.out
  have BA : Hid (Below u1.heap.size u1 (u1.alloc (.cells #[.slice A2 m cp2, .int .i64 ag] 74))) := bel_alloc _ _
  have KA : Hid (Blk (u1.alloc (.cells #[.slice A2 m cp2, .int .i64 ag] 74)) u1.heap.size 74 #[.slice A2 m cp2, .int .i64 ag]) := Blk.new _ _ _
  clear b1 BX KX KR PC
  go_wp2_with fail
  have B2 := hidE (bel_trans B1.out BA.out)
  have K2 := hidE (K1.out.since BA.out)
  have R2 := hidE (R1.out.since BA.out)
  have G7 : Hid (w.heap.size + 1 < u1.heap.size) := R1.out.lt
  clear x3 q1 q2 BA B1 K1 R1 Q1 Q2
  generalize (u1.alloc (.cells #[.slice A2 m cp2, .int .i64 ag] 74)) = Y at KA B2 K2 R2 ⊢
  generalize u1.heap.size = g7 at KA G7 ⊢
  refine (EA.out _ B2.out).mono ?_
  rintro e u2 ⟨rfl, b2⟩
  have B3 := hidE (bel_trans B2.out b2)
  have K3 := hidE (K2.out.since b2)
  have R3 := hidE (R2.out.since b2)
  have K7 := hidE (KA.out.since b2)
  clear b2 B2 K2 R2 KA EA
  have y0 : u2.cell? ⟨g7, 0, none⟩ = some (.slice A2 m cp2) := K7.out.cell 0
  by_cases mz : m = 0
  · have x1 : u2.cell? ⟨w.heap.size, 1, none⟩ = some (.int .i64 room) := K3.out.cell 1
    have SZ2 : Hid (g7 < u2.heap.size ∧ w.heap.size ≤ u2.heap.size) := ⟨K7.out.lt, B3.out.size⟩
    have ES : es = [] := List.length_eq_zero_iff.1 (by have := HM.out; omega)
    subst ES
    have M0 : m = 0 := HM.out
    subst M0
    go_upto_region 12 with fail
    go_wp2_with (first | (at_builtin; refine wpList_append_zero rfl _ _ 72 rfl 77 it Try.underlying72 HT.out.1 A2 cp2 (by rfl) (by rfl) ?_) | (at_builtin; refine wpList_append_lies _ rfl _ _ _ rfl u2.heap.size 77 it (.agg #[.string ⟨#[]⟩, .int .i64 0, .bool false]) 3 32 Try.underlying72 HT.out.1 HT.out.2.1 HT.out.2.2.1 HT.out.2.2.2 rfl (by omega) (.slice none 0 0) 0 ([]) (by rfl) (World.ownsRow_nil _ _ _ _) ⟨u2.heap.size, 0, none⟩ 1 1 [.string s, .int .i64 1, .bool false] (by rfl) rfl (new_ent u2 77 _ _ _) (ent_cell _ _ _) (by omega) (by unfold maxLen; omega) (by omega) (by simp) _ rfl ?_; intro gb1 cb1 w1 hown1 hgrow hat hlt1; have B4 : Below u2.heap.size u2 w1 := ((Below.refl _ u2).alloc (Nat.le_refl _) _).grown hgrow (by simp) (by intro q hq; simp [Value.ownBlock] at hq); have y9 : w1.cell? ⟨g7, 0, none⟩ = some (.slice A2 0 cp2) := (K7.out.of (B4.block _ K7.out.lt)).cell 0; have f9 := (K7.out.of (B4.block _ K7.out.lt)).frozen 0; clear y0 x1))
    have b4 := B4
    have BT0 : Hid (Below w.heap.size w w1) := (B3.out).trans (b4.mono B3.out.size)
    have KT0 := hidE (K3.out.of (b4.block _ K3.out.lt))
    have RT0 := hidE (R3.out.of (b4.block _ R3.out.lt))
    have K70 := hidE (K7.out.of (b4.block _ K7.out.lt))
    have GX := G7.out
    have GQ : u2.heap.size ≤ gb1 := (hown1.lt gb1 rfl).1
    have K7L := K7.out.lt
    have NEWS : eCells ([] ++ [⟨s, 1, false⟩]) = eCells [] ++ [.string s, .int .i64 1, .bool false] := eCells_append [] _
    have HEN0 : Hid (Held (fun q => q ≠ w.heap.size ∧ q ≠ w.heap.size + 1 ∧ q ≠ g7) (fun u => EntsE u (.slice (some ⟨gb1, 0, none⟩) (0 + 1) cb1) ([] ++ [⟨s, 1, false⟩])) w1) := by
      have e : w1.ownsRow u2.heap.size 77 3 (.slice (some ⟨gb1, 0, none⟩) (0 + 1) cb1) ([] ++ [(⟨s, 1, false⟩ : Ent)]).length (eCells ([] ++ [⟨s, 1, false⟩])) := by
        rw [NEWS, List.length_append, ← HM.out]
        exact hown1
      exact ents_held e fun q hq => by
        have := (e.lt q hq).1
        exact ⟨by omega, by omega, by omega⟩
    have BT : Hid (Below w.heap.size w (w1.setCell ⟨g7, 0, none⟩ (.slice (some ⟨gb1, 0, none⟩) (0 + 1) cb1))) := BT0.out.setCell (p := ⟨g7, 0, none⟩) (by show w.heap.size ≤ g7; omega) _
    have KT : Hid (Blk (w1.setCell ⟨g7, 0, none⟩ (.slice (some ⟨gb1, 0, none⟩) (0 + 1) cb1)) w.heap.size 32 #[.int .u64 S, .int .i64 room, .int .i64 votes, .slice (some ⟨bb, o, none⟩) n cap, .int .u64 LS, .int .i64 LM, .slice LA R lcap]) := KT0.out.other (a := ⟨g7, 0, none⟩) (by show w.heap.size ≠ g7; omega) _
    have RT : Hid (Blk (w1.setCell ⟨g7, 0, none⟩ (.slice (some ⟨gb1, 0, none⟩) (0 + 1) cb1)) (w.heap.size + 1) 32 #[.int .u64 0, .int .i64 0, .int .i64 0, .slice none 0 0, .int .u64 0, .int .i64 0, .slice none 0 0]) := RT0.out.other (a := ⟨g7, 0, none⟩) (by show w.heap.size + 1 ≠ g7; omega) _
    have K7T : Hid (Blk (w1.setCell ⟨g7, 0, none⟩ (.slice (some ⟨gb1, 0, none⟩) (0 + 1) cb1)) g7 74 #[.slice (some ⟨gb1, 0, none⟩) (0 + 1) cb1, .int .i64 ag]) := hidE (by
      have e := K70.out.set 0 (.slice (some ⟨gb1, 0, none⟩) (0 + 1) cb1)
      simpa using e)
    have HENT : Hid (Held (fun q => q ≠ w.heap.size ∧ q ≠ w.heap.size + 1) (fun u => EntsE u (.slice (some ⟨gb1, 0, none⟩) (0 + 1) cb1) (⟨[] ++ [⟨s, 1, false⟩], ag⟩ : Bkt).es) (w1.setCell ⟨g7, 0, none⟩ (.slice (some ⟨gb1, 0, none⟩) (0 + 1) cb1))) := (HEN0.out.same (Same.setCell (a := ⟨g7, 0, none⟩) (fun d => d.2.2 rfl) _)).mono fun q _ d => ⟨d.1, d.2.1⟩
    have HLT : Hid (Held (fun q => q ≠ w.heap.size ∧ q ≠ w.heap.size + 1) (fun u => RowsI u (.slice LA R lcap) R (fun _ => c) Z) (w1.setCell ⟨g7, 0, none⟩ (.slice (some ⟨gb1, 0, none⟩) (0 + 1) cb1))) := (HR.out.heldD (D := (fun q => q ≠ w.heap.size ∧ q ≠ w.heap.size + 1)) fun q hq => ⟨by omega, by omega⟩).since BT.out
    clear hown1 hgrow hat hlt1 b4 B4 HEN0 BT0 KT0 RT0 K70 GX GQ K7L NEWS B3 K3 R3 K7 HE0
    generalize w1.setCell ⟨g7, 0, none⟩ (.slice (some ⟨gb1, 0, none⟩) (0 + 1) cb1) = tw at BT KT RT K7T HENT HLT ⊢
    have SZT : Hid (w.heap.size + 1 < tw.heap.size ∧ g7 < tw.heap.size) := ⟨RT.out.lt, K7T.out.lt⟩
    obtain ⟨ib, hib, hz0, hz1, hz2⟩ := infoRB
    have HTB : Hid (Try.prog.info? 74 = some ib ∧ ib.zero = some (.agg #[.slice none 0 0, .int .i64 0]) ∧ ib.size = 2 ∧ ib.bytes = 32) := ⟨hib, hz0, hz1, hz2⟩
    clear hib hz0 hz1 hz2
    have BSL : Hid ((bs.set p ⟨[] ++ [⟨s, 1, false⟩], ag⟩).length = n) := hidE (by rw [List.length_set]; exact HN.out.symm)
    have BSP : Hid ((bs.set p ⟨[] ++ [⟨s, 1, false⟩], ag⟩)[p]? = some ⟨[] ++ [⟨s, 1, false⟩], ag⟩) := hidE (by rw [List.getElem?_set, if_pos rfl, if_pos (by have := HN.out; omega)])
    have BSO : Hid (∀ jj, jj ≠ p → (bs.set p ⟨[] ++ [⟨s, 1, false⟩], ag⟩)[jj]? = bs[jj]?) := hidE fun jj hi => by rw [List.getElem?_set, if_neg (fun z => hi z.symm)]
    obtain ⟨BS, hBS⟩ : ∃ BS, BS = bs.set p ⟨[] ++ [⟨s, 1, false⟩], ag⟩ := ⟨_, rfl⟩
    have HBS := hidE hBS
    rw [← hBS] at BSL BSP BSO
    clear hBS
    have R0 : Hid (RgB (fun q => q ≠ w.heap.size ∧ q ≠ w.heap.size + 1) w tw tw (.slice none 0 0) (BS.take 0)) := ⟨BT.out, Nat.le_refl _, fun q hq => by have := SZT.out; exact ⟨by omega, by omega⟩, [], rfl, World.ownsRow_nil _ _ _ _, fun i x ev h => by simp at h⟩
    go_wp2_with fail
    go_loopg [14, 15] n (fun gk s14 i wr => ∃ (k m : Nat) (A5 : Option Addr) (c5 : Nat), (gk = n - k ∧ k ≤ n ∧ RgB (fun q => q ≠ w.heap.size ∧ q ≠ w.heap.size + 1) w tw wr (.slice A5 m c5) (BS.take k) ∧ Below tw.heap.size tw wr) ∧ s14 = .slice A5 m c5 ∧ i = .int .i64 (k : Int))
    case atStart => exact ⟨0, 0, none, 0, ⟨rfl, by omega, R0.out, Below.refl _ _⟩, rfl, rfl⟩
    case round =>
      clear R0
      obtain ⟨kk, mm, A5, c5, ⟨hgk, hk, hG, hB⟩, rfl, rfl⟩ := hrel
      have HK := hidE hgk
      have HG := hidE hG
      have HBW := hidE hB
      have x3 : wr.cell? ⟨w.heap.size, 3, none⟩ = some (.slice (some ⟨bb, o, none⟩) n cap) := (KT.out.since hB).cell 3
      clear hgk hG hB
      have TL : Hid (mm = (BS.take kk).length) := by
        obtain ⟨A9, c9, e9⟩ := HG.out.slice
        cases e9
        rfl
      have TM : Hid (mm = kk) := by have e := TL.out; rw [List.length_take, BSL.out] at e; show mm = kk; omega
      by_cases hz : kk < n
      · have bk : (kk : Int) < (n : Int) := by omega
        have bk0 : (0 : Int) ≤ (kk : Int) := by omega
        obtain ⟨vs, vl, own, vx⟩ := id HG.out.row
        have HVX := hidE vx
        have HVL := hidE vl
        have OWB := hidE own
        have OWM : Hid (wr.ownsRow tw.heap.size 74 2 (.slice A5 mm c5) mm (bCells (vs.zip ((BS.take kk).map Bkt.ag)))) := by
          have e := OWB.out
          rw [← TL.out] at e
          exact e
        have SZ : Hid (tw.heap.size ≤ wr.heap.size) := HG.out.size
        have mb : mm ≤ 256 := by have := TM.out; omega
        clear vx vl own
        by_cases kp : kk = p
        · have qk : ((kk : Int) == (p : Int)) = true := by rw [kp]; simp
          have NX : Hid (BS.take (kk + 1) = BS.take kk ++ [⟨[] ++ [⟨s, 1, false⟩], ag⟩]) := hidE (take_nextE (by rw [kp]; exact BSP.out))
          have y0 : wr.cell? ⟨g7, 0, none⟩ = some (.slice (some ⟨gb1, 0, none⟩) (0 + 1) cb1) := (K7T.out.since HBW.out).cell 0
          have y1 : wr.cell? ⟨g7, 1, none⟩ = some (.int .i64 (ag)) := (K7T.out.since HBW.out).cell 1
          have HEW : Hid (Held (fun q => q ≠ w.heap.size ∧ q ≠ w.heap.size + 1 ∧ some q ≠ (Value.slice A5 mm c5).ownBlock) (fun u => EntsE u (.slice (some ⟨gb1, 0, none⟩) (0 + 1) cb1) (⟨[] ++ [⟨s, 1, false⟩], ag⟩ : Bkt).es) wr) := hidE fun u e => HENT.out u ⟨by have := e.1; have := SZ.out; omega, fun q d hq => (e.2 q ⟨d.1, d.2, fun z => by have := (OWB.out.lt q z.symm).1; omega⟩ (by have := SZ.out; omega)).trans (HBW.out.block q hq)⟩
          clear kp
          go_wp2_with (at_builtin; refine wpList_append_lies _ rfl _ _ _ rfl tw.heap.size 74 ib (.agg #[.slice none 0 0, .int .i64 0]) 2 32 Try.underlying29 HTB.out.1 HTB.out.2.1 HTB.out.2.2.1 HTB.out.2.2.2 rfl (by omega) (.slice A5 mm c5) mm (bCells (vs.zip ((BS.take kk).map Bkt.ag))) (by rfl) (OWM.out.alloc _) ⟨wr.heap.size, 0, none⟩ 1 1 [.slice (some ⟨gb1, 0, none⟩) (0 + 1) cb1, .int .i64 (ag)] (by rfl) rfl (new_it wr 74 _ _) (by intro z hz; simp at hz; rcases hz with rfl | rfl <;> rfl) (by omega) (by unfold maxLen; omega) (by omega) (by have := SZ.out; simp; omega) _ rfl ?_; intro gq cap1 w1 hown1 hgrow hat hlt1)
          have HEW2 : Held (fun q => (q ≠ w.heap.size ∧ q ≠ w.heap.size + 1) ∧ some q ≠ (Value.slice A5 mm c5).ownBlock) (fun u => EntsE u (.slice (some ⟨gb1, 0, none⟩) (0 + 1) cb1) (⟨[] ++ [⟨s, 1, false⟩], ag⟩ : Bkt).es) wr := HEW.out.mono fun q _ d => ⟨⟨d.1, d.2.1⟩, d.2.2⟩
          have HS := HG.out.step (x := ⟨[] ++ [⟨s, 1, false⟩], ag⟩) (ev := .slice (some ⟨gb1, 0, none⟩) (0 + 1) cb1) vs HVL.out OWB.out HVX.out HEW2 (by have := SZT.out; omega) (by
            have e := hown1
            rw [← TL.out]
            exact e) hgrow (hat.imp id fun z => by rw [z]; simp)
          rw [← TL.out] at HS
          have B9 : Below tw.heap.size tw w1 := (HBW.out.alloc SZ.out _).grown hgrow (by have := SZ.out; simp; omega) (fun q hq => (OWB.out.lt q hq).1)
          go_roundg (n - (kk + 1))
          case measure => have := HK.out; omega
          case rel => exact ⟨kk + 1, mm + 1, _, cap1, ⟨rfl, by omega, by rw [NX.out]; exact HS, B9⟩, rfl, by go_num⟩
        · have qk : ((kk : Int) == (p : Int)) = false := by simp; omega
          obtain ⟨y, hy⟩ : ∃ y, bs[kk]? = some y := ⟨_, List.getElem?_eq_getElem (by have := HN.out; omega)⟩
          have NX : Hid (BS.take (kk + 1) = BS.take kk ++ [y]) := hidE (take_nextE (by rw [BSO.out kk kp]; exact hy))
          obtain ⟨ev9, c1, c2, c3⟩ := H4.out kk y hy
          have c1 := keep_of_below (bel_trans BT.out HBW.out) _ _ c1
          have c2 := keep_of_below (bel_trans BT.out HBW.out) _ _ c2
          have HEW : Hid (Held (fun q => q ≠ w.heap.size ∧ q ≠ w.heap.size + 1 ∧ some q ≠ (Value.slice A5 mm c5).ownBlock) (fun u => EntsE u ev9 y.es) wr) := hidE fun u e => c3.keep (Same.keep ⟨by have := e.1; have := (bel_trans BT.out HBW.out).size; omega, fun q _ hq => (e.2 q ⟨by omega, by omega, fun z => by have := (OWB.out.lt q z.symm).1; have := SZT.out; omega⟩ (by have := (bel_trans BT.out HBW.out).size; omega)).trans ((bel_trans BT.out HBW.out).block q hq)⟩)
          obtain ⟨A8, c8, b8, o8, rfl, _⟩ := c3
          obtain ⟨m8, hm8⟩ : ∃ m8, m8 = y.es.length := ⟨_, rfl⟩
          have HM8 := hidE hm8
          obtain ⟨ag8, hag8⟩ : ∃ ag8, ag8 = y.ag := ⟨_, rfl⟩
          have HAG8 := hidE hag8
          rw [← hm8] at c1 HEW
          rw [← hag8] at c2
          clear hy hm8 hag8 kp
          go_wp2_with (at_builtin; refine wpList_append_lies _ rfl _ _ _ rfl tw.heap.size 74 ib (.agg #[.slice none 0 0, .int .i64 0]) 2 32 Try.underlying29 HTB.out.1 HTB.out.2.1 HTB.out.2.2.1 HTB.out.2.2.2 rfl (by omega) (.slice A5 mm c5) mm (bCells (vs.zip ((BS.take kk).map Bkt.ag))) (by rfl) (OWM.out.alloc _) ⟨wr.heap.size, 0, none⟩ 1 1 [.slice A8 m8 c8, .int .i64 (ag8)] (by rfl) rfl (new_it wr 74 _ _) (by intro z hz; simp at hz; rcases hz with rfl | rfl <;> rfl) (by omega) (by unfold maxLen; omega) (by omega) (by have := SZ.out; simp; omega) _ rfl ?_; intro gq cap1 w1 hown1 hgrow hat hlt1)
          have HEW2 : Held (fun q => (q ≠ w.heap.size ∧ q ≠ w.heap.size + 1) ∧ some q ≠ (Value.slice A5 mm c5).ownBlock) (fun u => EntsE u (.slice A8 m8 c8) (y : Bkt).es) wr := HEW.out.mono fun q _ d => ⟨⟨d.1, d.2.1⟩, d.2.2⟩
          have HS := HG.out.step (x := y) (ev := .slice A8 m8 c8) vs HVL.out OWB.out HVX.out HEW2 (by have := SZT.out; omega) (by
            have e := hown1
            rw [← TL.out]
            rw [HAG8.out] at e
            exact e) hgrow (hat.imp id fun z => by rw [z]; simp)
          rw [← TL.out] at HS
          have B9 : Below tw.heap.size tw w1 := (HBW.out.alloc SZ.out _).grown hgrow (by have := SZ.out; simp; omega) (fun q hq => (OWB.out.lt q hq).1)
          go_roundg (n - (kk + 1))
          case measure => have := HK.out; omega
          case rel => exact ⟨kk + 1, mm + 1, _, cap1, ⟨rfl, by omega, by rw [NX.out]; exact HS, B9⟩, rfl, by go_num⟩
      · have bk : ¬ (kk : Int) < (n : Int) := by omega
        have te : Hid (BS.take kk = BS) := hidE (List.take_of_length_le (by have := BSL.out; omega))
        have KW := hidE (KT.out.since HBW.out)
        have RW := hidE (RT.out.since HBW.out)
        have NL : Hid (mm = n) := by have := TM.out; show mm = n; omega
        have f3 := KW.out.frozen 3
        have KS : Hid (Blk (wr.setCell ⟨w.heap.size, 3, none⟩ (.slice A5 mm c5)) w.heap.size 32 #[.int .u64 S, .int .i64 room, .int .i64 votes, .slice A5 mm c5, .int .u64 LS, .int .i64 LM, .slice LA R lcap]) := set3_blk KW.out _
        have RS : Hid (Blk (wr.setCell ⟨w.heap.size, 3, none⟩ (.slice A5 mm c5)) (w.heap.size + 1) 32 #[.int .u64 0, .int .i64 0, .int .i64 0, .slice none 0 0, .int .u64 0, .int .i64 0, .slice none 0 0]) := RW.out.other (a := ⟨w.heap.size, 3, none⟩) (by show w.heap.size + 1 ≠ w.heap.size; omega) _
        have BS9 : Hid (Below w.heap.size w (wr.setCell ⟨w.heap.size, 3, none⟩ (.slice A5 mm c5))) := HG.out.since.setCell (p := ⟨w.heap.size, 3, none⟩) (Nat.le_refl _) _
        have SM9 : Hid (Same (fun q => q ≠ w.heap.size ∧ q ≠ w.heap.size + 1) wr (wr.setCell ⟨w.heap.size, 3, none⟩ (.slice A5 mm c5))) := Same.setCell (a := ⟨w.heap.size, 3, none⟩) (fun d => d.1 rfl) _
        have HBUC : Hid (Held (fun q => q ≠ w.heap.size ∧ q ≠ w.heap.size + 1) (fun u => BktsE u (.slice A5 mm c5) BS) (wr.setCell ⟨w.heap.size, 3, none⟩ (.slice A5 mm c5))) := by
          have e := HG.out.bkts
          rw [te.out] at e
          exact e.same SM9.out
        have HL9 : Hid (Held (fun q => q ≠ w.heap.size ∧ q ≠ w.heap.size + 1) (fun u => RowsI u (.slice LA R lcap) R (fun _ => c) Z) (wr.setCell ⟨w.heap.size, 3, none⟩ (.slice A5 mm c5))) := (HLT.out.since HBW.out).same SM9.out
        go_upto_region 36 with fail
        clear x3 f3
        generalize wr.setCell ⟨w.heap.size, 3, none⟩ (.slice A5 mm c5) = w9 at KS RS BS9 HBUC HL9 ⊢
        have x0 : w9.cell? ⟨w.heap.size, 0, none⟩ = some (.int .u64 S) := KS.out.cell 0
        have x1 : w9.cell? ⟨w.heap.size, 1, none⟩ = some (.int .i64 room) := KS.out.cell 1
        have x2 : w9.cell? ⟨w.heap.size, 2, none⟩ = some (.int .i64 votes) := KS.out.cell 2
        have x3 : w9.cell? ⟨w.heap.size, 3, none⟩ = some (.slice A5 mm c5) := KS.out.cell 3
        have x4 : w9.cell? ⟨w.heap.size, 4, none⟩ = some (.int .u64 LS) := KS.out.cell 4
        have x5 : w9.cell? ⟨w.heap.size, 5, none⟩ = some (.int .i64 LM) := KS.out.cell 5
        have x6 : w9.cell? ⟨w.heap.size, 6, none⟩ = some (.slice LA R lcap) := KS.out.cell 6
        have r0 : w9.cell? ⟨w.heap.size + 1, 0, none⟩ = some (.int .u64 0) := RS.out.cell 0
        have r1 : w9.cell? ⟨w.heap.size + 1, 1, none⟩ = some (.int .i64 0) := RS.out.cell 1
        have r2 : w9.cell? ⟨w.heap.size + 1, 2, none⟩ = some (.int .i64 0) := RS.out.cell 2
        have r3 : w9.cell? ⟨w.heap.size + 1, 3, none⟩ = some (.slice none 0 0) := RS.out.cell 3
        have r4 : w9.cell? ⟨w.heap.size + 1, 4, none⟩ = some (.int .u64 0) := RS.out.cell 4
        have r5 : w9.cell? ⟨w.heap.size + 1, 5, none⟩ = some (.int .i64 0) := RS.out.cell 5
        have r6 : w9.cell? ⟨w.heap.size + 1, 6, none⟩ = some (.slice none 0 0) := RS.out.cell 6
        have z0 := RS.out.frozen 0
        have z1 := RS.out.frozen 1
        have z2 := RS.out.frozen 2
        have z3 := RS.out.frozen 3
        have z4 := RS.out.frozen 4
        have z5 := RS.out.frozen 5
        have z6 := RS.out.frozen 6
        go_wp2_with fail
        refine bodyPost_ret (v := .tuple #[.agg #[.int .u64 S, .int .i64 room, .int .i64 votes, .slice A5 mm c5, .int .u64 LS, .int .i64 LM, .slice LA R lcap], .bool true]) ?_ rfl ?_
        rotate_left
        · refine ⟨_, rfl, ?_, eput7_below BS9.out (by omega) _ _ _ _ _ _ _⟩
          have sm : Same (fun q => q ≠ w.heap.size ∧ q ≠ w.heap.size + 1) w9 (eput7 w9 (w.heap.size + 1) (.int .u64 S) (.int .i64 room) (.int .i64 votes) (.slice A5 mm c5) (.int .u64 LS) (.int .i64 LM) (.slice LA R lcap)) := ⟨by rw [eput7_size]; exact Nat.le_refl _, fun q d hq => eput7_heap _ _ _ _ _ _ _ _ _ q d.2⟩
          have h1 := (HBUC.out.same sm).at
          have h2 := (HL9.out.same sm).at
          rw [HBS.out] at h1
          exact ⟨_, _, rfl, h1, h2⟩
        have c3 := eput7_blk (t := 32) RS.out (.int .u64 S) (.int .i64 room) (.int .i64 votes) (.slice A5 mm c5) (.int .u64 LS) (.int .i64 LM) (.slice LA R lcap)
        have c30 := c3.cell 0
        have c31 := c3.cell 1
        have c32 := c3.cell 2
        have c33 := c3.cell 3
        have c34 := c3.cell 4
        have c35 := c3.cell 5
        have c36 := c3.cell 6
        change (results _ _).run _ (eput7 w9 (w.heap.size + 1) (.int .u64 S) (.int .i64 room) (.int .i64 votes) (.slice A5 mm c5) (.int .u64 LS) (.int .i64 LM) (.slice LA R lcap)) = .ok _ (eput7 w9 (w.heap.size + 1) (.int .u64 S) (.int .i64 room) (.int .i64 votes) (.slice A5 mm c5) (.int .u64 LS) (.int .i64 LM) (.slice LA R lcap))
        generalize eput7 w9 (w.heap.size + 1) (.int .u64 S) (.int .i64 room) (.int .i64 votes) (.slice A5 mm c5) (.int .u64 LS) (.int .i64 LM) (.slice LA R lcap) = W5 at c30 c31 c32 c33 c34 c35 c36
        simp [results, Try.results19, go_sem, c30, c31, c32, c33, c34, c35, c36]
  · have x1 : u2.cell? ⟨w.heap.size, 1, none⟩ = some (.int .i64 room) := K3.out.cell 1
    have SZ2 : Hid (g7 < u2.heap.size ∧ w.heap.size ≤ u2.heap.size) := ⟨K7.out.lt, B3.out.size⟩
    obtain rfl := H5.out (by rw [← HM.out]; omega)
    have QC1 : (eCells es).length = m * 3 := by rw [eCells_len, HM.out]
    have QC2 : ∀ (j : Nat) (u : Value), (eCells es)[j]? = some u → u2.cell? ((⟨be, oe, none⟩ : Addr).add j) = some u := fun j u hj => by
      rw [Addr.add_lit]
      exact keep_of_below B3.out _ _ (ents_cells H6.out j u hj)
    have QC3 := eCells_one es
    go_upto_region 12 with fail
    go_wp2_with (first | (at_builtin; refine wpList_append_own _ rfl _ _ 72 rfl u2.heap.size 77 it (.agg #[.string ⟨#[]⟩, .int .i64 0, .bool false]) 3 32 Try.underlying72 HT.out.1 HT.out.2.1 HT.out.2.2.1 HT.out.2.2.2 rfl (by decide) (.slice none 0 0) 0 [] (by rfl) (World.ownsRow_nil _ _ _ _) ⟨be, oe, none⟩ m cp2 (eCells es) (by rfl) QC1 QC2 QC3 (by unfold maxLen; omega) (by omega) (Nat.le_refl _) ?_; intro v8 w8 hown8 hgrow8 hnil8; simp only [Nat.zero_add, List.nil_append] at hown8; obtain ⟨A8, c8, e8⟩ := own_slice hown8; subst e8; clear hnil8) | (at_builtin; refine wpList_append_lies _ rfl _ _ _ rfl u2.heap.size 77 it (.agg #[.string ⟨#[]⟩, .int .i64 0, .bool false]) 3 32 Try.underlying72 HT.out.1 HT.out.2.1 HT.out.2.2.1 HT.out.2.2.2 rfl (by omega) (.slice A8 m c8) m (eCells es) (by rfl) (hown8.alloc _) ⟨w8.heap.size, 0, none⟩ 1 1 [.string s, .int .i64 1, .bool false] (by rfl) rfl (new_ent w8 77 _ _ _) (ent_cell _ _ _) (by omega) (by unfold maxLen; omega) (by omega) (by have := hgrow8.size; simp; omega) _ rfl ?_; intro gb1 cb1 w1 hown1 hgrow hat hlt1; have B8 : Below u2.heap.size u2 w8 := (Below.refl _ u2).grown hgrow8 (Nat.le_refl _) (by intro q hq; simp [Value.ownBlock] at hq); have B4 : Below u2.heap.size u2 w1 := (B8.alloc B8.size _).grown hgrow (by have := B8.size; simp; omega) (fun q hq => (hown8.lt q hq).1); clear hown8 hgrow8 B8; have y9 : w1.cell? ⟨g7, 0, none⟩ = some (.slice (some ⟨be, oe, none⟩) m cp2) := (K7.out.of (B4.block _ K7.out.lt)).cell 0; have f9 := (K7.out.of (B4.block _ K7.out.lt)).frozen 0; clear y0 x1))
    have b4 := B4
    have BT0 : Hid (Below w.heap.size w w1) := (B3.out).trans (b4.mono B3.out.size)
    have KT0 := hidE (K3.out.of (b4.block _ K3.out.lt))
    have RT0 := hidE (R3.out.of (b4.block _ R3.out.lt))
    have K70 := hidE (K7.out.of (b4.block _ K7.out.lt))
    have GX := G7.out
    have GQ : u2.heap.size ≤ gb1 := (hown1.lt gb1 rfl).1
    have K7L := K7.out.lt
    have NEWS : eCells (es ++ [⟨s, 1, false⟩]) = eCells es ++ [.string s, .int .i64 1, .bool false] := eCells_append es _
    have HEN0 : Hid (Held (fun q => q ≠ w.heap.size ∧ q ≠ w.heap.size + 1 ∧ q ≠ g7) (fun u => EntsE u (.slice (some ⟨gb1, 0, none⟩) (m + 1) cb1) (es ++ [⟨s, 1, false⟩])) w1) := by
      have e : w1.ownsRow u2.heap.size 77 3 (.slice (some ⟨gb1, 0, none⟩) (m + 1) cb1) (es ++ [(⟨s, 1, false⟩ : Ent)]).length (eCells (es ++ [⟨s, 1, false⟩])) := by
        rw [NEWS, List.length_append, ← HM.out]
        exact hown1
      exact ents_held e fun q hq => by
        have := (e.lt q hq).1
        exact ⟨by omega, by omega, by omega⟩
    have BT : Hid (Below w.heap.size w (w1.setCell ⟨g7, 0, none⟩ (.slice (some ⟨gb1, 0, none⟩) (m + 1) cb1))) := BT0.out.setCell (p := ⟨g7, 0, none⟩) (by show w.heap.size ≤ g7; omega) _
    have KT : Hid (Blk (w1.setCell ⟨g7, 0, none⟩ (.slice (some ⟨gb1, 0, none⟩) (m + 1) cb1)) w.heap.size 32 #[.int .u64 S, .int .i64 room, .int .i64 votes, .slice (some ⟨bb, o, none⟩) n cap, .int .u64 LS, .int .i64 LM, .slice LA R lcap]) := KT0.out.other (a := ⟨g7, 0, none⟩) (by show w.heap.size ≠ g7; omega) _
    have RT : Hid (Blk (w1.setCell ⟨g7, 0, none⟩ (.slice (some ⟨gb1, 0, none⟩) (m + 1) cb1)) (w.heap.size + 1) 32 #[.int .u64 0, .int .i64 0, .int .i64 0, .slice none 0 0, .int .u64 0, .int .i64 0, .slice none 0 0]) := RT0.out.other (a := ⟨g7, 0, none⟩) (by show w.heap.size + 1 ≠ g7; omega) _
    have K7T : Hid (Blk (w1.setCell ⟨g7, 0, none⟩ (.slice (some ⟨gb1, 0, none⟩) (m + 1) cb1)) g7 74 #[.slice (some ⟨gb1, 0, none⟩) (m + 1) cb1, .int .i64 ag]) := hidE (by
      have e := K70.out.set 0 (.slice (some ⟨gb1, 0, none⟩) (m + 1) cb1)
      simpa using e)
    have HENT : Hid (Held (fun q => q ≠ w.heap.size ∧ q ≠ w.heap.size + 1) (fun u => EntsE u (.slice (some ⟨gb1, 0, none⟩) (m + 1) cb1) (⟨es ++ [⟨s, 1, false⟩], ag⟩ : Bkt).es) (w1.setCell ⟨g7, 0, none⟩ (.slice (some ⟨gb1, 0, none⟩) (m + 1) cb1))) := (HEN0.out.same (Same.setCell (a := ⟨g7, 0, none⟩) (fun d => d.2.2 rfl) _)).mono fun q _ d => ⟨d.1, d.2.1⟩
    have HLT : Hid (Held (fun q => q ≠ w.heap.size ∧ q ≠ w.heap.size + 1) (fun u => RowsI u (.slice LA R lcap) R (fun _ => c) Z) (w1.setCell ⟨g7, 0, none⟩ (.slice (some ⟨gb1, 0, none⟩) (m + 1) cb1))) := (HR.out.heldD (D := (fun q => q ≠ w.heap.size ∧ q ≠ w.heap.size + 1)) fun q hq => ⟨by omega, by omega⟩).since BT.out
    clear hown1 hgrow hat hlt1 b4 B4 HEN0 BT0 KT0 RT0 K70 GX GQ K7L NEWS B3 K3 R3 K7 HE0
    generalize w1.setCell ⟨g7, 0, none⟩ (.slice (some ⟨gb1, 0, none⟩) (m + 1) cb1) = tw at BT KT RT K7T HENT HLT ⊢
    have SZT : Hid (w.heap.size + 1 < tw.heap.size ∧ g7 < tw.heap.size) := ⟨RT.out.lt, K7T.out.lt⟩
    obtain ⟨ib, hib, hz0, hz1, hz2⟩ := infoRB
    have HTB : Hid (Try.prog.info? 74 = some ib ∧ ib.zero = some (.agg #[.slice none 0 0, .int .i64 0]) ∧ ib.size = 2 ∧ ib.bytes = 32) := ⟨hib, hz0, hz1, hz2⟩
    clear hib hz0 hz1 hz2
    have BSL : Hid ((bs.set p ⟨es ++ [⟨s, 1, false⟩], ag⟩).length = n) := hidE (by rw [List.length_set]; exact HN.out.symm)
    have BSP : Hid ((bs.set p ⟨es ++ [⟨s, 1, false⟩], ag⟩)[p]? = some ⟨es ++ [⟨s, 1, false⟩], ag⟩) := hidE (by rw [List.getElem?_set, if_pos rfl, if_pos (by have := HN.out; omega)])
    have BSO : Hid (∀ jj, jj ≠ p → (bs.set p ⟨es ++ [⟨s, 1, false⟩], ag⟩)[jj]? = bs[jj]?) := hidE fun jj hi => by rw [List.getElem?_set, if_neg (fun z => hi z.symm)]
    obtain ⟨BS, hBS⟩ : ∃ BS, BS = bs.set p ⟨es ++ [⟨s, 1, false⟩], ag⟩ := ⟨_, rfl⟩
    have HBS := hidE hBS
    rw [← hBS] at BSL BSP BSO
    clear hBS
    have R0 : Hid (RgB (fun q => q ≠ w.heap.size ∧ q ≠ w.heap.size + 1) w tw tw (.slice none 0 0) (BS.take 0)) := ⟨BT.out, Nat.le_refl _, fun q hq => by have := SZT.out; exact ⟨by omega, by omega⟩, [], rfl, World.ownsRow_nil _ _ _ _, fun i x ev h => by simp at h⟩
    go_wp2_with fail
    go_loopg [14, 15] n (fun gk s14 i wr => ∃ (k m : Nat) (A5 : Option Addr) (c5 : Nat), (gk = n - k ∧ k ≤ n ∧ RgB (fun q => q ≠ w.heap.size ∧ q ≠ w.heap.size + 1) w tw wr (.slice A5 m c5) (BS.take k) ∧ Below tw.heap.size tw wr) ∧ s14 = .slice A5 m c5 ∧ i = .int .i64 (k : Int))
    case atStart => exact ⟨0, 0, none, 0, ⟨rfl, by omega, R0.out, Below.refl _ _⟩, rfl, rfl⟩
    case round =>
      clear R0
      obtain ⟨kk, mm, A5, c5, ⟨hgk, hk, hG, hB⟩, rfl, rfl⟩ := hrel
      have HK := hidE hgk
      have HG := hidE hG
      have HBW := hidE hB
      have x3 : wr.cell? ⟨w.heap.size, 3, none⟩ = some (.slice (some ⟨bb, o, none⟩) n cap) := (KT.out.since hB).cell 3
      clear hgk hG hB
      have TL : Hid (mm = (BS.take kk).length) := by
        obtain ⟨A9, c9, e9⟩ := HG.out.slice
        cases e9
        rfl
      have TM : Hid (mm = kk) := by have e := TL.out; rw [List.length_take, BSL.out] at e; show mm = kk; omega
      by_cases hz : kk < n
      · have bk : (kk : Int) < (n : Int) := by omega
        have bk0 : (0 : Int) ≤ (kk : Int) := by omega
        obtain ⟨vs, vl, own, vx⟩ := id HG.out.row
        have HVX := hidE vx
        have HVL := hidE vl
        have OWB := hidE own
        have OWM : Hid (wr.ownsRow tw.heap.size 74 2 (.slice A5 mm c5) mm (bCells (vs.zip ((BS.take kk).map Bkt.ag)))) := by
          have e := OWB.out
          rw [← TL.out] at e
          exact e
        have SZ : Hid (tw.heap.size ≤ wr.heap.size) := HG.out.size
        have mb : mm ≤ 256 := by have := TM.out; omega
        clear vx vl own
        by_cases kp : kk = p
        · have qk : ((kk : Int) == (p : Int)) = true := by rw [kp]; simp
          have NX : Hid (BS.take (kk + 1) = BS.take kk ++ [⟨es ++ [⟨s, 1, false⟩], ag⟩]) := hidE (take_nextE (by rw [kp]; exact BSP.out))
          have y0 : wr.cell? ⟨g7, 0, none⟩ = some (.slice (some ⟨gb1, 0, none⟩) (m + 1) cb1) := (K7T.out.since HBW.out).cell 0
          have y1 : wr.cell? ⟨g7, 1, none⟩ = some (.int .i64 (ag)) := (K7T.out.since HBW.out).cell 1
          have HEW : Hid (Held (fun q => q ≠ w.heap.size ∧ q ≠ w.heap.size + 1 ∧ some q ≠ (Value.slice A5 mm c5).ownBlock) (fun u => EntsE u (.slice (some ⟨gb1, 0, none⟩) (m + 1) cb1) (⟨es ++ [⟨s, 1, false⟩], ag⟩ : Bkt).es) wr) := hidE fun u e => HENT.out u ⟨by have := e.1; have := SZ.out; omega, fun q d hq => (e.2 q ⟨d.1, d.2, fun z => by have := (OWB.out.lt q z.symm).1; omega⟩ (by have := SZ.out; omega)).trans (HBW.out.block q hq)⟩
          clear kp
          go_wp2_with (at_builtin; refine wpList_append_lies _ rfl _ _ _ rfl tw.heap.size 74 ib (.agg #[.slice none 0 0, .int .i64 0]) 2 32 Try.underlying29 HTB.out.1 HTB.out.2.1 HTB.out.2.2.1 HTB.out.2.2.2 rfl (by omega) (.slice A5 mm c5) mm (bCells (vs.zip ((BS.take kk).map Bkt.ag))) (by rfl) (OWM.out.alloc _) ⟨wr.heap.size, 0, none⟩ 1 1 [.slice (some ⟨gb1, 0, none⟩) (m + 1) cb1, .int .i64 (ag)] (by rfl) rfl (new_it wr 74 _ _) (by intro z hz; simp at hz; rcases hz with rfl | rfl <;> rfl) (by omega) (by unfold maxLen; omega) (by omega) (by have := SZ.out; simp; omega) _ rfl ?_; intro gq cap1 w1 hown1 hgrow hat hlt1)
          have HEW2 : Held (fun q => (q ≠ w.heap.size ∧ q ≠ w.heap.size + 1) ∧ some q ≠ (Value.slice A5 mm c5).ownBlock) (fun u => EntsE u (.slice (some ⟨gb1, 0, none⟩) (m + 1) cb1) (⟨es ++ [⟨s, 1, false⟩], ag⟩ : Bkt).es) wr := HEW.out.mono fun q _ d => ⟨⟨d.1, d.2.1⟩, d.2.2⟩
          have HS := HG.out.step (x := ⟨es ++ [⟨s, 1, false⟩], ag⟩) (ev := .slice (some ⟨gb1, 0, none⟩) (m + 1) cb1) vs HVL.out OWB.out HVX.out HEW2 (by have := SZT.out; omega) (by
            have e := hown1
            rw [← TL.out]
            exact e) hgrow (hat.imp id fun z => by rw [z]; simp)
          rw [← TL.out] at HS
          have B9 : Below tw.heap.size tw w1 := (HBW.out.alloc SZ.out _).grown hgrow (by have := SZ.out; simp; omega) (fun q hq => (OWB.out.lt q hq).1)
          go_roundg (n - (kk + 1))
          case measure => have := HK.out; omega
          case rel => exact ⟨kk + 1, mm + 1, _, cap1, ⟨rfl, by omega, by rw [NX.out]; exact HS, B9⟩, rfl, by go_num⟩
        · have qk : ((kk : Int) == (p : Int)) = false := by simp; omega
          obtain ⟨y, hy⟩ : ∃ y, bs[kk]? = some y := ⟨_, List.getElem?_eq_getElem (by have := HN.out; omega)⟩
          have NX : Hid (BS.take (kk + 1) = BS.take kk ++ [y]) := hidE (take_nextE (by rw [BSO.out kk kp]; exact hy))
          obtain ⟨ev9, c1, c2, c3⟩ := H4.out kk y hy
          have c1 := keep_of_below (bel_trans BT.out HBW.out) _ _ c1
          have c2 := keep_of_below (bel_trans BT.out HBW.out) _ _ c2
          have HEW : Hid (Held (fun q => q ≠ w.heap.size ∧ q ≠ w.heap.size + 1 ∧ some q ≠ (Value.slice A5 mm c5).ownBlock) (fun u => EntsE u ev9 y.es) wr) := hidE fun u e => c3.keep (Same.keep ⟨by have := e.1; have := (bel_trans BT.out HBW.out).size; omega, fun q _ hq => (e.2 q ⟨by omega, by omega, fun z => by have := (OWB.out.lt q z.symm).1; have := SZT.out; omega⟩ (by have := (bel_trans BT.out HBW.out).size; omega)).trans ((bel_trans BT.out HBW.out).block q hq)⟩)
          obtain ⟨A8, c8, b8, o8, rfl, _⟩ := c3
          obtain ⟨m8, hm8⟩ : ∃ m8, m8 = y.es.length := ⟨_, rfl⟩
          have HM8 := hidE hm8
          obtain ⟨ag8, hag8⟩ : ∃ ag8, ag8 = y.ag := ⟨_, rfl⟩
          have HAG8 := hidE hag8
          rw [← hm8] at c1 HEW
          rw [← hag8] at c2
          clear hy hm8 hag8 kp
          go_wp2_with (at_builtin; refine wpList_append_lies _ rfl _ _ _ rfl tw.heap.size 74 ib (.agg #[.slice none 0 0, .int .i64 0]) 2 32 Try.underlying29 HTB.out.1 HTB.out.2.1 HTB.out.2.2.1 HTB.out.2.2.2 rfl (by omega) (.slice A5 mm c5) mm (bCells (vs.zip ((BS.take kk).map Bkt.ag))) (by rfl) (OWM.out.alloc _) ⟨wr.heap.size, 0, none⟩ 1 1 [.slice A8 m8 c8, .int .i64 (ag8)] (by rfl) rfl (new_it wr 74 _ _) (by intro z hz; simp at hz; rcases hz with rfl | rfl <;> rfl) (by omega) (by unfold maxLen; omega) (by omega) (by have := SZ.out; simp; omega) _ rfl ?_; intro gq cap1 w1 hown1 hgrow hat hlt1)
          have HEW2 : Held (fun q => (q ≠ w.heap.size ∧ q ≠ w.heap.size + 1) ∧ some q ≠ (Value.slice A5 mm c5).ownBlock) (fun u => EntsE u (.slice A8 m8 c8) (y : Bkt).es) wr := HEW.out.mono fun q _ d => ⟨⟨d.1, d.2.1⟩, d.2.2⟩
          have HS := HG.out.step (x := y) (ev := .slice A8 m8 c8) vs HVL.out OWB.out HVX.out HEW2 (by have := SZT.out; omega) (by
            have e := hown1
            rw [← TL.out]
            rw [HAG8.out] at e
            exact e) hgrow (hat.imp id fun z => by rw [z]; simp)
          rw [← TL.out] at HS
          have B9 : Below tw.heap.size tw w1 := (HBW.out.alloc SZ.out _).grown hgrow (by have := SZ.out; simp; omega) (fun q hq => (OWB.out.lt q hq).1)
          go_roundg (n - (kk + 1))
          case measure => have := HK.out; omega
          case rel => exact ⟨kk + 1, mm + 1, _, cap1, ⟨rfl, by omega, by rw [NX.out]; exact HS, B9⟩, rfl, by go_num⟩
      · have bk : ¬ (kk : Int) < (n : Int) := by omega
        have te : Hid (BS.take kk = BS) := hidE (List.take_of_length_le (by have := BSL.out; omega))
        have KW := hidE (KT.out.since HBW.out)
        have RW := hidE (RT.out.since HBW.out)
        have NL : Hid (mm = n) := by have := TM.out; show mm = n; omega
        have f3 := KW.out.frozen 3
        have KS : Hid (Blk (wr.setCell ⟨w.heap.size, 3, none⟩ (.slice A5 mm c5)) w.heap.size 32 #[.int .u64 S, .int .i64 room, .int .i64 votes, .slice A5 mm c5, .int .u64 LS, .int .i64 LM, .slice LA R lcap]) := set3_blk KW.out _
        have RS : Hid (Blk (wr.setCell ⟨w.heap.size, 3, none⟩ (.slice A5 mm c5)) (w.heap.size + 1) 32 #[.int .u64 0, .int .i64 0, .int .i64 0, .slice none 0 0, .int .u64 0, .int .i64 0, .slice none 0 0]) := RW.out.other (a := ⟨w.heap.size, 3, none⟩) (by show w.heap.size + 1 ≠ w.heap.size; omega) _
        have BS9 : Hid (Below w.heap.size w (wr.setCell ⟨w.heap.size, 3, none⟩ (.slice A5 mm c5))) := HG.out.since.setCell (p := ⟨w.heap.size, 3, none⟩) (Nat.le_refl _) _
        have SM9 : Hid (Same (fun q => q ≠ w.heap.size ∧ q ≠ w.heap.size + 1) wr (wr.setCell ⟨w.heap.size, 3, none⟩ (.slice A5 mm c5))) := Same.setCell (a := ⟨w.heap.size, 3, none⟩) (fun d => d.1 rfl) _
        have HBUC : Hid (Held (fun q => q ≠ w.heap.size ∧ q ≠ w.heap.size + 1) (fun u => BktsE u (.slice A5 mm c5) BS) (wr.setCell ⟨w.heap.size, 3, none⟩ (.slice A5 mm c5))) := by
          have e := HG.out.bkts
          rw [te.out] at e
          exact e.same SM9.out
        have HL9 : Hid (Held (fun q => q ≠ w.heap.size ∧ q ≠ w.heap.size + 1) (fun u => RowsI u (.slice LA R lcap) R (fun _ => c) Z) (wr.setCell ⟨w.heap.size, 3, none⟩ (.slice A5 mm c5))) := (HLT.out.since HBW.out).same SM9.out
        go_upto_region 36 with fail
        clear x3 f3
        generalize wr.setCell ⟨w.heap.size, 3, none⟩ (.slice A5 mm c5) = w9 at KS RS BS9 HBUC HL9 ⊢
        have x0 : w9.cell? ⟨w.heap.size, 0, none⟩ = some (.int .u64 S) := KS.out.cell 0
        have x1 : w9.cell? ⟨w.heap.size, 1, none⟩ = some (.int .i64 room) := KS.out.cell 1
        have x2 : w9.cell? ⟨w.heap.size, 2, none⟩ = some (.int .i64 votes) := KS.out.cell 2
        have x3 : w9.cell? ⟨w.heap.size, 3, none⟩ = some (.slice A5 mm c5) := KS.out.cell 3
        have x4 : w9.cell? ⟨w.heap.size, 4, none⟩ = some (.int .u64 LS) := KS.out.cell 4
        have x5 : w9.cell? ⟨w.heap.size, 5, none⟩ = some (.int .i64 LM) := KS.out.cell 5
        have x6 : w9.cell? ⟨w.heap.size, 6, none⟩ = some (.slice LA R lcap) := KS.out.cell 6
        have r0 : w9.cell? ⟨w.heap.size + 1, 0, none⟩ = some (.int .u64 0) := RS.out.cell 0
        have r1 : w9.cell? ⟨w.heap.size + 1, 1, none⟩ = some (.int .i64 0) := RS.out.cell 1
        have r2 : w9.cell? ⟨w.heap.size + 1, 2, none⟩ = some (.int .i64 0) := RS.out.cell 2
        have r3 : w9.cell? ⟨w.heap.size + 1, 3, none⟩ = some (.slice none 0 0) := RS.out.cell 3
        have r4 : w9.cell? ⟨w.heap.size + 1, 4, none⟩ = some (.int .u64 0) := RS.out.cell 4
        have r5 : w9.cell? ⟨w.heap.size + 1, 5, none⟩ = some (.int .i64 0) := RS.out.cell 5
        have r6 : w9.cell? ⟨w.heap.size + 1, 6, none⟩ = some (.slice none 0 0) := RS.out.cell 6
        have z0 := RS.out.frozen 0
        have z1 := RS.out.frozen 1
        have z2 := RS.out.frozen 2
        have z3 := RS.out.frozen 3
        have z4 := RS.out.frozen 4
        have z5 := RS.out.frozen 5
        have z6 := RS.out.frozen 6
        go_wp2_with fail
        refine bodyPost_ret (v := .tuple #[.agg #[.int .u64 S, .int .i64 room, .int .i64 votes, .slice A5 mm c5, .int .u64 LS, .int .i64 LM, .slice LA R lcap], .bool true]) ?_ rfl ?_
        rotate_left
        · refine ⟨_, rfl, ?_, eput7_below BS9.out (by omega) _ _ _ _ _ _ _⟩
          have sm : Same (fun q => q ≠ w.heap.size ∧ q ≠ w.heap.size + 1) w9 (eput7 w9 (w.heap.size + 1) (.int .u64 S) (.int .i64 room) (.int .i64 votes) (.slice A5 mm c5) (.int .u64 LS) (.int .i64 LM) (.slice LA R lcap)) := ⟨by rw [eput7_size]; exact Nat.le_refl _, fun q d hq => eput7_heap _ _ _ _ _ _ _ _ _ q d.2⟩
          have h1 := (HBUC.out.same sm).at
          have h2 := (HL9.out.same sm).at
          rw [HBS.out] at h1
          exact ⟨_, _, rfl, h1, h2⟩
        have c3 := eput7_blk (t := 32) RS.out (.int .u64 S) (.int .i64 room) (.int .i64 votes) (.slice A5 mm c5) (.int .u64 LS) (.int .i64 LM) (.slice LA R lcap)
        have c30 := c3.cell 0
        have c31 := c3.cell 1
        have c32 := c3.cell 2
        have c33 := c3.cell 3
        have c34 := c3.cell 4
        have c35 := c3.cell 5
        have c36 := c3.cell 6
        change (results _ _).run _ (eput7 w9 (w.heap.size + 1) (.int .u64 S) (.int .i64 room) (.int .i64 votes) (.slice A5 mm c5) (.int .u64 LS) (.int .i64 LM) (.slice LA R lcap)) = .ok _ (eput7 w9 (w.heap.size + 1) (.int .u64 S) (.int .i64 room) (.int .i64 votes) (.slice A5 mm c5) (.int .u64 LS) (.int .i64 LM) (.slice LA R lcap))
        generalize eput7 w9 (w.heap.size + 1) (.int .u64 S) (.int .i64 room) (.int .i64 votes) (.slice A5 mm c5) (.int .u64 LS) (.int .i64 LM) (.slice LA R lcap) = W5 at c30 c31 c32 c33 c34 c35 c36
        simp [results, Try.results19, go_sem, c30, c31, c32, c33, c34, c35, c36]
set_option maxHeartbeats 3200000 in
theorem eradd_full_no (w : World) (S room votes LS LM : Int) (LA : Option Addr) (bb o n cap R lcap p c : Nat) (bs : List Bkt) (b : Bkt) (Z : Nat → Nat → Int) (s : ByteArray) (PC : Hid (∀ u, Below w.heap.size w u → Calls Try.prog 26 #[.agg #[.int .u64 S, .int .i64 room, .int .i64 votes, .slice (some ⟨bb, o, none⟩) n cap, .int .u64 LS, .int .i64 LM, .slice LA R lcap], .string s] u fun e w' => e = .returned (.int .i64 (p : Int)) ∧ Below u.heap.size u w')) (H4 : Hid (∀ (i : Nat) (x : Bkt), bs[i]? = some x → ∃ ev, w.cell? ⟨bb, o + i * 2, none⟩ = some ev ∧ w.cell? ⟨bb, o + i * 2 + 1, none⟩ = some (.int .i64 x.ag) ∧ EntsE w ev x.es)) (HN : Hid (n = bs.length)) (HR : Hid (RowsI w (.slice LA R lcap) R (fun _ => c) Z)) (pn : p < n) (n1 : n ≤ 256) (hb : bs[p]? = some b) (rb : RightB room b) (r1 : 1 ≤ room) (r8 : room ≤ 8) (v1 : 1 ≤ votes) (v2 : votes ≤ 64) (ga : atE b.es s = none) (hr : ¬ (b.es.length : Int) < room) (dm : b.ag + 1 > 1099511627776) :
    Calls Try.prog 19 #[.agg #[.int .u64 S, .int .i64 room, .int .i64 votes, .slice (some ⟨bb, o, none⟩) n cap, .int .u64 LS, .int .i64 LM, .slice LA R lcap], .string s] w fun e w' => e = .returned (.tuple #[.agg #[.int .u64 0, .int .i64 0, .int .i64 0, .slice none 0 0, .int .u64 0, .int .i64 0, .slice none 0 0], .bool false]) ∧ Below w.heap.size w w' := by
  obtain ⟨es, ag⟩ := b
  have HB := hidE hb
  obtain ⟨rl, ra0, ra1, re⟩ := rb
  simp only at rl ra0 ra1 re
  have RE := hidE re
  obtain ⟨ev, q1, q2, q3⟩ := H4.out p _ hb
  simp only at q2 q3
  have EA := hidE fun u (z : Below w.heap.size w u) => eat_any u ev ag es s (q3.keep (keep_of_below z)) (by omega)
  have HE0 := hidE q3
  obtain ⟨A2, cp2, be, oe, rfl, hc2, h5, h6⟩ := q3
  have H5 := hidE h5
  have H6 := hidE h6
  obtain ⟨m, hm⟩ : ∃ m, m = es.length := ⟨_, rfl⟩
  have HM := hidE hm
  rw [← hm] at EA q1 hc2 rl HE0
  rw [atI_none ga] at EA
  have mr : ¬ (m : Int) < room := by have := HM.out; simp only at hr; omega
  have m1 : m ≤ 1000 := by omega
  have m0 : 0 < m := by omega
  simp only at dm
  clear ga hr
  obtain rfl := H5.out (by rw [← HM.out]; omega)
  have BX : Hid (Below w.heap.size w ((w.alloc (.cells #[.int .u64 S, .int .i64 room, .int .i64 votes, .slice (some ⟨bb, o, none⟩) n cap, .int .u64 LS, .int .i64 LM, .slice LA R lcap] 32)).alloc (.cells #[.int .u64 0, .int .i64 0, .int .i64 0, .slice none 0 0, .int .u64 0, .int .i64 0, .slice none 0 0] 32))) := (bel_alloc _ _).alloc (by simp) _
  have KX : Hid (Blk ((w.alloc (.cells #[.int .u64 S, .int .i64 room, .int .i64 votes, .slice (some ⟨bb, o, none⟩) n cap, .int .u64 LS, .int .i64 LM, .slice LA R lcap] 32)).alloc (.cells #[.int .u64 0, .int .i64 0, .int .i64 0, .slice none 0 0, .int .u64 0, .int .i64 0, .slice none 0 0] 32)) w.heap.size 32 #[.int .u64 S, .int .i64 room, .int .i64 votes, .slice (some ⟨bb, o, none⟩) n cap, .int .u64 LS, .int .i64 LM, .slice LA R lcap]) := (Blk.new _ _ _).alloc _
  have KR : Hid (Blk ((w.alloc (.cells #[.int .u64 S, .int .i64 room, .int .i64 votes, .slice (some ⟨bb, o, none⟩) n cap, .int .u64 LS, .int .i64 LM, .slice LA R lcap] 32)).alloc (.cells #[.int .u64 0, .int .i64 0, .int .i64 0, .slice none 0 0, .int .u64 0, .int .i64 0, .slice none 0 0] 32)) (w.heap.size + 1) 32 #[.int .u64 0, .int .i64 0, .int .i64 0, .slice none 0 0, .int .u64 0, .int .i64 0, .slice none 0 0]) := by
    have e := Blk.new (w.alloc (.cells #[.int .u64 S, .int .i64 room, .int .i64 votes, .slice (some ⟨bb, o, none⟩) n cap, .int .u64 LS, .int .i64 LM, .slice LA R lcap] 32)) 32 #[.int .u64 0, .int .i64 0, .int .i64 0, .slice none 0 0, .int .u64 0, .int .i64 0, .slice none 0 0]
    simp only [World.size_alloc] at e
    exact e
  have pb : (p : Int) < (n : Int) := by omega
  have p0 : (0 : Int) ≤ (p : Int) := by omega
  have Q1 := hidE q1
  have Q2 := hidE q2
  clear hb re h5 h6 hm q1 q2 hc2
  go_enter Try.func19, Try.ntmps19
  go_wp2_with fail
  generalize ((w.alloc (.cells #[.int .u64 S, .int .i64 room, .int .i64 votes, .slice (some ⟨bb, o, none⟩) n cap, .int .u64 LS, .int .i64 LM, .slice LA R lcap] 32)).alloc (.cells #[.int .u64 0, .int .i64 0, .int .i64 0, .slice none 0 0, .int .u64 0, .int .i64 0, .slice none 0 0] 32)) = X at BX KX KR ⊢
  refine (PC.out _ BX.out).mono ?_
  rintro e u1 ⟨rfl, b1⟩
  have B1 := hidE (bel_trans BX.out b1)
  have K1 := hidE (KX.out.since b1)
  have R1 := hidE (KR.out.since b1)
  have x3 : u1.cell? ⟨w.heap.size, 3, none⟩ = some (.slice (some ⟨bb, o, none⟩) n cap) := K1.out.cell 3
  have q1 := keep_of_below B1.out _ _ Q1.out
  have q2 := keep_of_below B1.out _ _ Q2.out
  have BA : Hid (Below u1.heap.size u1 (u1.alloc (.cells #[.slice (some ⟨be, oe, none⟩) m cp2, .int .i64 ag] 74))) := bel_alloc _ _
  have KA : Hid (Blk (u1.alloc (.cells #[.slice (some ⟨be, oe, none⟩) m cp2, .int .i64 ag] 74)) u1.heap.size 74 #[.slice (some ⟨be, oe, none⟩) m cp2, .int .i64 ag]) := Blk.new _ _ _
  clear b1 BX KX KR PC
  go_wp2_with fail
  have B2 := hidE (bel_trans B1.out BA.out)
  have K2 := hidE (K1.out.since BA.out)
  have R2 := hidE (R1.out.since BA.out)
  have G7 : Hid (w.heap.size + 1 < u1.heap.size) := R1.out.lt
  clear x3 q1 q2 BA B1 K1 R1 Q1 Q2
  generalize (u1.alloc (.cells #[.slice (some ⟨be, oe, none⟩) m cp2, .int .i64 ag] 74)) = Y at KA B2 K2 R2 ⊢
  generalize u1.heap.size = g7 at KA G7 ⊢
  refine (EA.out _ B2.out).mono ?_
  rintro e u2 ⟨rfl, b2⟩
  have B3 := hidE (bel_trans B2.out b2)
  have K3 := hidE (K2.out.since b2)
  have R3 := hidE (R2.out.since b2)
  have K7 := hidE (KA.out.since b2)
  clear b2 B2 K2 R2 KA EA
  have y0 : u2.cell? ⟨g7, 0, none⟩ = some (.slice (some ⟨be, oe, none⟩) m cp2) := K7.out.cell 0
  have x1 : u2.cell? ⟨w.heap.size, 1, none⟩ = some (.int .i64 room) := K3.out.cell 1
  have y1 : u2.cell? ⟨g7, 1, none⟩ = some (.int .i64 ag) := K7.out.cell 1
  have f1 := K7.out.frozen 1
  have KU : Hid (Blk (u2.setCell ⟨g7, 1, none⟩ (.int .i64 (ag + 1))) g7 74 #[.slice (some ⟨be, oe, none⟩) m cp2, .int .i64 (ag + 1)]) := hidE (by
    have e := K7.out.set 1 (.int .i64 (ag + 1))
    simpa using e)
  have GX := G7.out
  have RU : Hid (Blk (u2.setCell ⟨g7, 1, none⟩ (.int .i64 (ag + 1))) (w.heap.size + 1) 32 #[.int .u64 0, .int .i64 0, .int .i64 0, .slice none 0 0, .int .u64 0, .int .i64 0, .slice none 0 0]) := R3.out.other (a := ⟨g7, 1, none⟩) (by show w.heap.size + 1 ≠ g7; omega) _
  have KXU : Hid (Blk (u2.setCell ⟨g7, 1, none⟩ (.int .i64 (ag + 1))) w.heap.size 32 #[.int .u64 S, .int .i64 room, .int .i64 votes, .slice (some ⟨bb, o, none⟩) n cap, .int .u64 LS, .int .i64 LM, .slice LA R lcap]) := K3.out.other (a := ⟨g7, 1, none⟩) (by show w.heap.size ≠ g7; omega) _
  have BU : Hid (Below w.heap.size w (u2.setCell ⟨g7, 1, none⟩ (.int .i64 (ag + 1)))) := B3.out.setCell (p := ⟨g7, 1, none⟩) (by show w.heap.size ≤ g7; omega) _
  have y2 : (u2.setCell ⟨g7, 1, none⟩ (.int .i64 (ag + 1))).cell? ⟨g7, 1, none⟩ = some (.int .i64 (ag + 1)) := KU.out.cell 1
  clear GX
  have r0 : (u2.setCell ⟨g7, 1, none⟩ (.int .i64 (ag + 1))).cell? ⟨w.heap.size + 1, 0, none⟩ = some (.int .u64 0) := RU.out.cell 0
  have r1 : (u2.setCell ⟨g7, 1, none⟩ (.int .i64 (ag + 1))).cell? ⟨w.heap.size + 1, 1, none⟩ = some (.int .i64 0) := RU.out.cell 1
  have r2 : (u2.setCell ⟨g7, 1, none⟩ (.int .i64 (ag + 1))).cell? ⟨w.heap.size + 1, 2, none⟩ = some (.int .i64 0) := RU.out.cell 2
  have r3 : (u2.setCell ⟨g7, 1, none⟩ (.int .i64 (ag + 1))).cell? ⟨w.heap.size + 1, 3, none⟩ = some (.slice none 0 0) := RU.out.cell 3
  have r4 : (u2.setCell ⟨g7, 1, none⟩ (.int .i64 (ag + 1))).cell? ⟨w.heap.size + 1, 4, none⟩ = some (.int .u64 0) := RU.out.cell 4
  have r5 : (u2.setCell ⟨g7, 1, none⟩ (.int .i64 (ag + 1))).cell? ⟨w.heap.size + 1, 5, none⟩ = some (.int .i64 0) := RU.out.cell 5
  have r6 : (u2.setCell ⟨g7, 1, none⟩ (.int .i64 (ag + 1))).cell? ⟨w.heap.size + 1, 6, none⟩ = some (.slice none 0 0) := RU.out.cell 6
  have z0 := RU.out.frozen 0
  have z1 := RU.out.frozen 1
  have z2 := RU.out.frozen 2
  have z3 := RU.out.frozen 3
  have z4 := RU.out.frozen 4
  have z5 := RU.out.frozen 5
  have z6 := RU.out.frozen 6
  go_wp2_with fail
  refine bodyPost_ret (v := .tuple #[.agg #[.int .u64 0, .int .i64 0, .int .i64 0, .slice none 0 0, .int .u64 0, .int .i64 0, .slice none 0 0], .bool false]) ?_ rfl ?_
  rotate_left
  · exact ⟨rfl, eput7_below BU.out (by omega) _ _ _ _ _ _ _⟩
  have c3 := eput7_blk (t := 32) RU.out (.int .u64 0) (.int .i64 0) (.int .i64 0) (.slice none 0 0) (.int .u64 0) (.int .i64 0) (.slice none 0 0)
  have c30 := c3.cell 0
  have c31 := c3.cell 1
  have c32 := c3.cell 2
  have c33 := c3.cell 3
  have c34 := c3.cell 4
  have c35 := c3.cell 5
  have c36 := c3.cell 6
  change (results _ _).run _ (eput7 (u2.setCell ⟨g7, 1, none⟩ (.int .i64 (ag + 1))) (w.heap.size + 1) (.int .u64 0) (.int .i64 0) (.int .i64 0) (.slice none 0 0) (.int .u64 0) (.int .i64 0) (.slice none 0 0)) = .ok _ (eput7 (u2.setCell ⟨g7, 1, none⟩ (.int .i64 (ag + 1))) (w.heap.size + 1) (.int .u64 0) (.int .i64 0) (.int .i64 0) (.slice none 0 0) (.int .u64 0) (.int .i64 0) (.slice none 0 0))
  generalize eput7 (u2.setCell ⟨g7, 1, none⟩ (.int .i64 (ag + 1))) (w.heap.size + 1) (.int .u64 0) (.int .i64 0) (.int .i64 0) (.slice none 0 0) (.int .u64 0) (.int .i64 0) (.slice none 0 0) = W5 at c30 c31 c32 c33 c34 c35 c36
  simp [results, Try.results19, go_sem, c30, c31, c32, c33, c34, c35, c36]
set_option maxHeartbeats 6400000 in
theorem eradd_out (w : World) (S room votes LS LM : Int) (LA : Option Addr) (bb o n cap R lcap p c : Nat) (bs : List Bkt) (b : Bkt) (Z : Nat → Nat → Int) (s : ByteArray) (PC : Hid (∀ u, Below w.heap.size w u → Calls Try.prog 26 #[.agg #[.int .u64 S, .int .i64 room, .int .i64 votes, .slice (some ⟨bb, o, none⟩) n cap, .int .u64 LS, .int .i64 LM, .slice LA R lcap], .string s] u fun e w' => e = .returned (.int .i64 (p : Int)) ∧ Below u.heap.size u w')) (H4 : Hid (∀ (i : Nat) (x : Bkt), bs[i]? = some x → ∃ ev, w.cell? ⟨bb, o + i * 2, none⟩ = some ev ∧ w.cell? ⟨bb, o + i * 2 + 1, none⟩ = some (.int .i64 x.ag) ∧ EntsE w ev x.es)) (HN : Hid (n = bs.length)) (HR : Hid (RowsI w (.slice LA R lcap) R (fun _ => c) Z)) (pn : p < n) (n1 : n ≤ 256) (hb : bs[p]? = some b) (rb : RightB room b) (r1 : 1 ≤ room) (r8 : room ≤ 8) (v1 : 1 ≤ votes) (v2 : votes ≤ 64) (ZA : Nat → Nat → Int) (ga : atE b.es s = none) (hr : ¬ (b.es.length : Int) < room) (dm : ¬ b.ag + 1 > 1099511627776) (le : Ent) (hl : b.es[lowAt b.es]? = some le) (hc : ¬ b.ag + 1 ≥ votes * le.v) (LC : Hid (∀ u, Below w.heap.size w u → Calls Try.prog 45 #[.agg #[.int .u64 LS, .int .i64 LM, .slice LA R lcap], .string s, .int .i64 1] u (ToldH u LS LM R c ZA))) :
    Calls Try.prog 19 #[.agg #[.int .u64 S, .int .i64 room, .int .i64 votes, .slice (some ⟨bb, o, none⟩) n cap, .int .u64 LS, .int .i64 LM, .slice LA R lcap], .string s] w fun e w' => ∃ x', e = .returned (.tuple #[x', .bool true]) ∧ ElAt w' x' ⟨S, room, votes, bs.set p ⟨b.es, b.ag + 1⟩, LS, LM, R, fun _ => c, ZA⟩ ∧ Below w.heap.size w w' := by
  obtain ⟨es, ag⟩ := b
  have HB := hidE hb
  obtain ⟨rl, ra0, ra1, re⟩ := rb
  simp only at rl ra0 ra1 re
  have RE := hidE re
  obtain ⟨ev, q1, q2, q3⟩ := H4.out p _ hb
  simp only at q2 q3
  have EA := hidE fun u (z : Below w.heap.size w u) => eat_any u ev ag es s (q3.keep (keep_of_below z)) (by omega)
  have HE0 := hidE q3
  obtain ⟨A2, cp2, be, oe, rfl, hc2, h5, h6⟩ := q3
  have H5 := hidE h5
  have H6 := hidE h6
  obtain ⟨m, hm⟩ : ∃ m, m = es.length := ⟨_, rfl⟩
  have HM := hidE hm
  rw [← hm] at EA q1 hc2 rl HE0
  rw [atI_none ga] at EA
  have mr : ¬ (m : Int) < room := by have := HM.out; simp only at hr; omega
  have m1 : m ≤ 1000 := by omega
  have m0 : 0 < m := by omega
  simp only at dm hl hc
  have HLW := hidE hl
  have HCV := hidE hc
  clear ga hr hl hc
  obtain rfl := H5.out (by rw [← HM.out]; omega)
  have BX : Hid (Below w.heap.size w ((w.alloc (.cells #[.int .u64 S, .int .i64 room, .int .i64 votes, .slice (some ⟨bb, o, none⟩) n cap, .int .u64 LS, .int .i64 LM, .slice LA R lcap] 32)).alloc (.cells #[.int .u64 0, .int .i64 0, .int .i64 0, .slice none 0 0, .int .u64 0, .int .i64 0, .slice none 0 0] 32))) := (bel_alloc _ _).alloc (by simp) _
  have KX : Hid (Blk ((w.alloc (.cells #[.int .u64 S, .int .i64 room, .int .i64 votes, .slice (some ⟨bb, o, none⟩) n cap, .int .u64 LS, .int .i64 LM, .slice LA R lcap] 32)).alloc (.cells #[.int .u64 0, .int .i64 0, .int .i64 0, .slice none 0 0, .int .u64 0, .int .i64 0, .slice none 0 0] 32)) w.heap.size 32 #[.int .u64 S, .int .i64 room, .int .i64 votes, .slice (some ⟨bb, o, none⟩) n cap, .int .u64 LS, .int .i64 LM, .slice LA R lcap]) := (Blk.new _ _ _).alloc _
  have KR : Hid (Blk ((w.alloc (.cells #[.int .u64 S, .int .i64 room, .int .i64 votes, .slice (some ⟨bb, o, none⟩) n cap, .int .u64 LS, .int .i64 LM, .slice LA R lcap] 32)).alloc (.cells #[.int .u64 0, .int .i64 0, .int .i64 0, .slice none 0 0, .int .u64 0, .int .i64 0, .slice none 0 0] 32)) (w.heap.size + 1) 32 #[.int .u64 0, .int .i64 0, .int .i64 0, .slice none 0 0, .int .u64 0, .int .i64 0, .slice none 0 0]) := by
    have e := Blk.new (w.alloc (.cells #[.int .u64 S, .int .i64 room, .int .i64 votes, .slice (some ⟨bb, o, none⟩) n cap, .int .u64 LS, .int .i64 LM, .slice LA R lcap] 32)) 32 #[.int .u64 0, .int .i64 0, .int .i64 0, .slice none 0 0, .int .u64 0, .int .i64 0, .slice none 0 0]
    simp only [World.size_alloc] at e
    exact e
  have pb : (p : Int) < (n : Int) := by omega
  have p0 : (0 : Int) ≤ (p : Int) := by omega
  have Q1 := hidE q1
  have Q2 := hidE q2
  clear hb re h5 h6 hm q1 q2 hc2
  go_enter Try.func19, Try.ntmps19
  go_wp2_with fail
  generalize ((w.alloc (.cells #[.int .u64 S, .int .i64 room, .int .i64 votes, .slice (some ⟨bb, o, none⟩) n cap, .int .u64 LS, .int .i64 LM, .slice LA R lcap] 32)).alloc (.cells #[.int .u64 0, .int .i64 0, .int .i64 0, .slice none 0 0, .int .u64 0, .int .i64 0, .slice none 0 0] 32)) = X at BX KX KR ⊢
  refine (PC.out _ BX.out).mono ?_
  rintro e u1 ⟨rfl, b1⟩
  have B1 := hidE (bel_trans BX.out b1)
  have K1 := hidE (KX.out.since b1)
  have R1 := hidE (KR.out.since b1)
  have x3 : u1.cell? ⟨w.heap.size, 3, none⟩ = some (.slice (some ⟨bb, o, none⟩) n cap) := K1.out.cell 3
  have q1 := keep_of_below B1.out _ _ Q1.out
  have q2 := keep_of_below B1.out _ _ Q2.out
  have BA : Hid (Below u1.heap.size u1 (u1.alloc (.cells #[.slice (some ⟨be, oe, none⟩) m cp2, .int .i64 ag] 74))) := bel_alloc _ _
  have KA : Hid (Blk (u1.alloc (.cells #[.slice (some ⟨be, oe, none⟩) m cp2, .int .i64 ag] 74)) u1.heap.size 74 #[.slice (some ⟨be, oe, none⟩) m cp2, .int .i64 ag]) := Blk.new _ _ _
  clear b1 BX KX KR PC
  go_wp2_with fail
  have B2 := hidE (bel_trans B1.out BA.out)
  have K2 := hidE (K1.out.since BA.out)
  have R2 := hidE (R1.out.since BA.out)
  have G7 : Hid (w.heap.size + 1 < u1.heap.size) := R1.out.lt
  clear x3 q1 q2 BA B1 K1 R1 Q1 Q2
  generalize (u1.alloc (.cells #[.slice (some ⟨be, oe, none⟩) m cp2, .int .i64 ag] 74)) = Y at KA B2 K2 R2 ⊢
  generalize u1.heap.size = g7 at KA G7 ⊢
  refine (EA.out _ B2.out).mono ?_
  rintro e u2 ⟨rfl, b2⟩
  have B3 := hidE (bel_trans B2.out b2)
  have K3 := hidE (K2.out.since b2)
  have R3 := hidE (R2.out.since b2)
  have K7 := hidE (KA.out.since b2)
  clear b2 B2 K2 R2 KA EA
  have y0 : u2.cell? ⟨g7, 0, none⟩ = some (.slice (some ⟨be, oe, none⟩) m cp2) := K7.out.cell 0
  have x1 : u2.cell? ⟨w.heap.size, 1, none⟩ = some (.int .i64 room) := K3.out.cell 1
  have y1 : u2.cell? ⟨g7, 1, none⟩ = some (.int .i64 ag) := K7.out.cell 1
  have f1 := K7.out.frozen 1
  have KU : Hid (Blk (u2.setCell ⟨g7, 1, none⟩ (.int .i64 (ag + 1))) g7 74 #[.slice (some ⟨be, oe, none⟩) m cp2, .int .i64 (ag + 1)]) := hidE (by
    have e := K7.out.set 1 (.int .i64 (ag + 1))
    simpa using e)
  have GX := G7.out
  have RU : Hid (Blk (u2.setCell ⟨g7, 1, none⟩ (.int .i64 (ag + 1))) (w.heap.size + 1) 32 #[.int .u64 0, .int .i64 0, .int .i64 0, .slice none 0 0, .int .u64 0, .int .i64 0, .slice none 0 0]) := R3.out.other (a := ⟨g7, 1, none⟩) (by show w.heap.size + 1 ≠ g7; omega) _
  have KXU : Hid (Blk (u2.setCell ⟨g7, 1, none⟩ (.int .i64 (ag + 1))) w.heap.size 32 #[.int .u64 S, .int .i64 room, .int .i64 votes, .slice (some ⟨bb, o, none⟩) n cap, .int .u64 LS, .int .i64 LM, .slice LA R lcap]) := K3.out.other (a := ⟨g7, 1, none⟩) (by show w.heap.size ≠ g7; omega) _
  have BU : Hid (Below w.heap.size w (u2.setCell ⟨g7, 1, none⟩ (.int .i64 (ag + 1)))) := B3.out.setCell (p := ⟨g7, 1, none⟩) (by show w.heap.size ≤ g7; omega) _
  have y2 : (u2.setCell ⟨g7, 1, none⟩ (.int .i64 (ag + 1))).cell? ⟨g7, 1, none⟩ = some (.int .i64 (ag + 1)) := KU.out.cell 1
  clear GX
  obtain ⟨e0, he0⟩ : ∃ e0, es[0]? = some e0 := ⟨_, List.getElem?_eq_getElem (by rw [← HM.out]; exact m0)⟩
  obtain ⟨k0, d0, f0⟩ := e0
  obtain ⟨c1, c2, c3⟩ := H6.out 0 _ he0
  rw [Nat.zero_mul, Nat.add_zero] at c1 c2 c3
  simp only at c1 c2 c3
  have HE00 := hidE he0
  have c1 := keep_of_below BU.out _ _ c1
  have c2 := keep_of_below BU.out _ _ c2
  have c3 := keep_of_below BU.out _ _ c3
  have z0 : (u2.setCell ⟨g7, 1, none⟩ (.int .i64 (ag + 1))).cell? ⟨g7, 0, none⟩ = some (.slice (some ⟨be, oe, none⟩) m cp2) := KU.out.cell 0
  have m0i : (0 : Int) < (m : Int) := by omega
  have BV : Hid (Below (u2.setCell ⟨g7, 1, none⟩ (.int .i64 (ag + 1))).heap.size (u2.setCell ⟨g7, 1, none⟩ (.int .i64 (ag + 1))) ((u2.setCell ⟨g7, 1, none⟩ (.int .i64 (ag + 1))).alloc (.cells #[.string k0, .int .i64 d0, .bool f0] 77))) := bel_alloc _ _
  have KV : Hid (Blk ((u2.setCell ⟨g7, 1, none⟩ (.int .i64 (ag + 1))).alloc (.cells #[.string k0, .int .i64 d0, .bool f0] 77)) u2.heap.size 77 #[.string k0, .int .i64 d0, .bool f0]) := hidE (by
    have e := Blk.new (u2.setCell ⟨g7, 1, none⟩ (.int .i64 (ag + 1))) 77 #[.string k0, .int .i64 d0, .bool f0]
    rw [size_setCell] at e
    exact e)
  clear he0
  go_upto_region 17 with fail
  clear x1 y1 f1 y0 y2 c1 c2 c3 z0
  have G11 : Hid (w.heap.size + 1 < u2.heap.size ∧ g7 < u2.heap.size) := ⟨R3.out.lt, K7.out.lt⟩
  have KV7 := hidE (KU.out.since BV.out)
  have RV := hidE (RU.out.since BV.out)
  have KXV := hidE (KXU.out.since BV.out)
  have BVW := hidE (bel_trans BU.out BV.out)
  clear BV KU RU KXU BU B3 K3 R3 K7
  generalize (u2.setCell ⟨g7, 1, none⟩ (.int .i64 (ag + 1))).alloc (.cells #[.string k0, .int .i64 d0, .bool f0] 77) = V at KV KV7 RV KXV BVW ⊢
  generalize u2.heap.size = g11 at KV G11 ⊢
  have z0 : V.cell? ⟨g7, 0, none⟩ = some (.slice (some ⟨be, oe, none⟩) m cp2) := KV7.out.cell 0
  go_wp2_with fail
  clear z0
  go_loopg [13, 78] m (fun gk s13 i wr => ∃ (kk q : Nat) (t : ByteArray) (d : Int) (f : Bool), (gk = m - kk ∧ kk ≤ m ∧ q = lowE es kk ∧ es[q]? = some ⟨t, d, f⟩ ∧ Blk wr g11 77 #[.string t, .int .i64 d, .bool f] ∧ Same (fun q => q ≠ g11) V wr ∧ Below w.heap.size w wr) ∧ i = .int .i64 (kk : Int))
  case atStart => exact ⟨0, 0, k0, d0, f0, ⟨rfl, by omega, rfl, HE00.out, KV.out, ⟨Nat.le_refl _, fun _ _ _ => rfl⟩, BVW.out⟩, rfl⟩
  case round =>
    obtain ⟨kk, q, t, d, f, ⟨hgk, hk, hq, hqe, hkb, hsm, hbl⟩, rfl⟩ := hrel
    have HK := hidE hgk
    have HQ := hidE (And.intro hq hqe)
    have KB := hidE hkb
    have SM := hidE hsm
    have BL := hidE hbl
    have l1 : wr.cell? ⟨g11, 1, none⟩ = some (.int .i64 d) := hkb.cell 1
    clear hgk hq hqe hkb hsm hbl
    by_cases hz : kk < m
    · obtain ⟨y, hy⟩ : ∃ y, es[kk]? = some y := ⟨_, List.getElem?_eq_getElem (by rw [← HM.out]; exact hz)⟩
      obtain ⟨c1, c2, c3⟩ := H6.out kk y hy
      have c1 := keep_of_below BL.out _ _ c1
      have c2 := keep_of_below BL.out _ _ c2
      have c3 := keep_of_below BL.out _ _ c3
      have NX : Hid (lowE es (kk + 1) = if y.v < d then kk else q) := by
        show lowE es (kk + 1) = _
        rw [lowE, ← HQ.out.1, hy, HQ.out.2]
      have HY := hidE hy
      clear hy
      obtain ⟨ty, dy, fy⟩ := y
      simp only at c1 c2 c3 NX
      have bk : (kk : Int) < (m : Int) := by omega
      have bk0 : (0 : Int) ≤ (kk : Int) := by omega
      have BA : Hid (Below wr.heap.size wr (wr.alloc (.cells #[.string ty, .int .i64 dy, .bool fy] 77))) := bel_alloc _ _
      have KA : Hid (Blk (wr.alloc (.cells #[.string ty, .int .i64 dy, .bool fy] 77)) wr.heap.size 77 #[.string ty, .int .i64 dy, .bool fy]) := Blk.new _ _ _
      go_upto_region 20 with fail
      have KB2 := hidE (KB.out.since BA.out)
      have SM2 : Hid (Same (fun q => q ≠ g11) V (wr.alloc (.cells #[.string ty, .int .i64 dy, .bool fy] 77))) := SM.out.trans (Same.below BA.out)
      have BL2 := hidE (bel_trans BL.out BA.out)
      clear BA c1 c2 c3 l1 KB SM BL
      generalize wr.alloc (.cells #[.string ty, .int .i64 dy, .bool fy] 77) = Q at KA KB2 SM2 BL2 ⊢
      generalize wr.heap.size = g13 at KA ⊢
      have l1 : Q.cell? ⟨g11, 1, none⟩ = some (.int .i64 d) := KB2.out.cell 1
      have a0 : Q.cell? ⟨g13, 0, none⟩ = some (.string ty) := KA.out.cell 0
      have a1 : Q.cell? ⟨g13, 1, none⟩ = some (.int .i64 dy) := KA.out.cell 1
      have a2 : Q.cell? ⟨g13, 2, none⟩ = some (.bool fy) := KA.out.cell 2
      by_cases lt : dy < d
      · rw [if_pos lt] at NX
        have l0 : Q.cell? ⟨g11, 0, none⟩ = some (.string t) := KB2.out.cell 0
        have l2 : Q.cell? ⟨g11, 2, none⟩ = some (.bool f) := KB2.out.cell 2
        have e0 := KB2.out.frozen 0
        have e1 := KB2.out.frozen 1
        have e2 := KB2.out.frozen 2
        go_wp2_with fail
        go_roundg (m - (kk + 1))
        case measure => have := HK.out; omega
        case rel =>
          have KE := eput3_blk KB2.out (.string ty) (.int .i64 dy) (.bool fy)
          exact ⟨kk + 1, kk, ty, dy, fy, ⟨rfl, by omega, NX.out.symm, HY.out, KE, SM2.out.trans ⟨by show Q.heap.size ≤ (eput3 Q g11 _ _ _).heap.size; unfold eput3; rw [size_setCell, size_setCell, size_setCell]; exact Nat.le_refl _, fun q d hq => eput3_heap _ _ _ _ _ q d⟩, eput3_below BL2.out (by have := G11.out.1; omega) _ _ _⟩, by go_num⟩
      · rw [if_neg lt] at NX
        go_wp2_with fail
        go_roundg (m - (kk + 1))
        case measure => have := HK.out; omega
        case rel => exact ⟨kk + 1, q, t, d, f, ⟨rfl, by omega, NX.out.symm, HQ.out.2, KB2.out, SM2.out, BL2.out⟩, by go_num⟩
    · have bk : ¬ (kk : Int) < (m : Int) := by omega
      have e : kk = m := by omega
      have LOW : Hid (es[lowAt es]? = some ⟨t, d, f⟩) := by
        have h1 := HQ.out.1
        have h2 := HQ.out.2
        rw [e, HM.out] at h1
        show es[lowE es es.length]? = _
        rw [← h1]; exact h2
      have E2 := hidE e
      have le2 := RE.out _ _ LOW.out
      simp only at le2
      have d1 := le2.1
      have d2 := le2.2.1
      have LAT := hidE le2.2.2
      have fr : ∀ q, q ≠ g11 → q < V.heap.size → wr.heap[q]? = V.heap[q]? := fun q hq hl => SM.out.2 q hq hl
      have KW7 : Hid (Blk wr g7 74 #[.slice (some ⟨be, oe, none⟩) m cp2, .int .i64 (ag + 1)]) := KV7.out.of (fr _ (by have := G11.out.2; omega) KV7.out.lt)
      have RW : Hid (Blk wr (w.heap.size + 1) 32 #[.int .u64 0, .int .i64 0, .int .i64 0, .slice none 0 0, .int .u64 0, .int .i64 0, .slice none 0 0]) := RV.out.of (fr _ (by have := G11.out.1; omega) RV.out.lt)
      have KXW : Hid (Blk wr w.heap.size 32 #[.int .u64 S, .int .i64 room, .int .i64 votes, .slice (some ⟨bb, o, none⟩) n cap, .int .u64 LS, .int .i64 LM, .slice LA R lcap]) := KXV.out.of (fr _ (by have := G11.out.1; omega) KXV.out.lt)
      have y1 : wr.cell? ⟨g7, 1, none⟩ = some (.int .i64 (ag + 1)) := KW7.out.cell 1
      have x2 : wr.cell? ⟨w.heap.size, 2, none⟩ = some (.int .i64 votes) := KXW.out.cell 2
      have mm1 : votes * d ≤ 64 * d := Int.mul_le_mul_of_nonneg_right v2 (by omega)
      have mm0 : 0 ≤ votes * d := Int.mul_nonneg (by omega) (by omega)
      have wm : IntKind.i64.wrap (votes * d) = votes * d := by rw [IntKind.wrap_i64]; omega
      have CV : Hid (¬ ag + 1 ≥ votes * d) := hidE (by
        have e1 := LOW.out
        rw [HLW.out] at e1
        cases e1
        have := HCV.out
        simpa using this)
      have cv := CV.out
      clear e le2 fr SM HQ mm1 mm0 KV7 RV KXV BVW KV
      have x4 : wr.cell? ⟨w.heap.size, 4, none⟩ = some (.int .u64 LS) := KXW.out.cell 4
      have x5 : wr.cell? ⟨w.heap.size, 5, none⟩ = some (.int .i64 LM) := KXW.out.cell 5
      have x6 : wr.cell? ⟨w.heap.size, 6, none⟩ = some (.slice LA R lcap) := KXW.out.cell 6
      go_wp2_with fail
      refine (LC.out wr BL.out).mono ?_
      rintro e u6 ⟨xl, rfl, hxl, b6⟩
      obtain ⟨rl9, rfl, hrl⟩ := hxl.at
      obtain ⟨LB, lcb, _, _, rfl, _⟩ := hrl.read
      clear hrl
      have HL6 : Hid (Held (fun q => wr.heap.size ≤ q) (fun u => RowsI u (.slice LB R lcb) R (fun _ => c) ZA) u6) := fun u e => by
        obtain ⟨v, e1, e2⟩ := hxl u e
        simp at e1
        rw [e1]; exact e2
      have K6 := hidE (KXW.out.since b6)
      have R6 := hidE (RW.out.since b6)
      have K76 := hidE (KW7.out.since b6)
      have B6 := hidE (bel_trans BL.out b6)
      have W6 : Hid (w.heap.size + 1 < wr.heap.size) := RW.out.lt
      clear hxl b6 y1 x2 x4 x5 x6 LC
      have x4 : u6.cell? ⟨w.heap.size, 4, none⟩ = some (.int .u64 LS) := K6.out.cell 4
      have x5 : u6.cell? ⟨w.heap.size, 5, none⟩ = some (.int .i64 LM) := K6.out.cell 5
      have x6 : u6.cell? ⟨w.heap.size, 6, none⟩ = some (.slice LA R lcap) := K6.out.cell 6
      have f4 := K6.out.frozen 4
      have f5 := K6.out.frozen 5
      have f6 := K6.out.frozen 6
      go_upto_region 28 with fail
      have KT : Hid (Blk (put456 u6 w.heap.size (.int .u64 LS) (.int .i64 LM) (.slice LB R lcb)) w.heap.size 32 #[.int .u64 S, .int .i64 room, .int .i64 votes, .slice (some ⟨bb, o, none⟩) n cap, .int .u64 LS, .int .i64 LM, .slice LB R lcb]) := put456_blk K6.out _ _ _
      have RT : Hid (Blk (put456 u6 w.heap.size (.int .u64 LS) (.int .i64 LM) (.slice LB R lcb)) (w.heap.size + 1) 32 #[.int .u64 0, .int .i64 0, .int .i64 0, .slice none 0 0, .int .u64 0, .int .i64 0, .slice none 0 0]) := R6.out.of (put456_heap _ _ _ _ _ _ (by omega))
      have K7T : Hid (Blk (put456 u6 w.heap.size (.int .u64 LS) (.int .i64 LM) (.slice LB R lcb)) g7 74 #[.slice (some ⟨be, oe, none⟩) m cp2, .int .i64 (ag + 1)]) := K76.out.of (put456_heap _ _ _ _ _ _ (by have := G7.out; omega))
      have BT : Hid (Below w.heap.size w (put456 u6 w.heap.size (.int .u64 LS) (.int .i64 LM) (.slice LB R lcb))) := put456_below B6.out (Nat.le_refl _) _ _ _
      have HLT : Hid (Held (fun q => q ≠ w.heap.size ∧ q ≠ w.heap.size + 1) (fun u => RowsI u (.slice LB R lcb) R (fun _ => c) ZA) (put456 u6 w.heap.size (.int .u64 LS) (.int .i64 LM) (.slice LB R lcb))) := (HL6.out.same ⟨by rw [put456_size]; exact Nat.le_refl _, fun q d hq => put456_heap _ _ _ _ _ q (by have := W6.out; omega)⟩).mono fun q _ d => by have := W6.out; exact ⟨by omega, by omega⟩
      have HENT : Hid (Held (fun q => q ≠ w.heap.size ∧ q ≠ w.heap.size + 1) (fun u => EntsE u (.slice (some ⟨be, oe, none⟩) m cp2) (⟨es, ag + 1⟩ : Bkt).es) (put456 u6 w.heap.size (.int .u64 LS) (.int .i64 LM) (.slice LB R lcb))) := ((HE0.out.held (D := (fun q => q ≠ w.heap.size ∧ q ≠ w.heap.size + 1)) fun q hq => ⟨by omega, by omega⟩)).since BT.out
      clear x4 x5 x6 f4 f5 f6 K6 R6 B6 K76 HL6
      change Code.wp _ _ _ _ (put456 u6 w.heap.size (.int .u64 LS) (.int .i64 LM) (.slice LB R lcb))
      generalize (put456 u6 w.heap.size (.int .u64 LS) (.int .i64 LM) (.slice LB R lcb)) = tw at KT RT K7T BT HLT HENT ⊢
      have SZT : Hid (w.heap.size + 1 < tw.heap.size ∧ g7 < tw.heap.size) := ⟨RT.out.lt, K7T.out.lt⟩
      obtain ⟨ib, hib, hz0, hz1, hz2⟩ := infoRB
      have HTB : Hid (Try.prog.info? 74 = some ib ∧ ib.zero = some (.agg #[.slice none 0 0, .int .i64 0]) ∧ ib.size = 2 ∧ ib.bytes = 32) := ⟨hib, hz0, hz1, hz2⟩
      clear hib hz0 hz1 hz2
      have BSL : Hid ((bs.set p ⟨es, ag + 1⟩).length = n) := hidE (by rw [List.length_set]; exact HN.out.symm)
      have BSP : Hid ((bs.set p ⟨es, ag + 1⟩)[p]? = some ⟨es, ag + 1⟩) := hidE (by rw [List.getElem?_set, if_pos rfl, if_pos (by have := HN.out; omega)])
      have BSO : Hid (∀ jj, jj ≠ p → (bs.set p ⟨es, ag + 1⟩)[jj]? = bs[jj]?) := hidE fun jj hi => by rw [List.getElem?_set, if_neg (fun z => hi z.symm)]
      obtain ⟨BS, hBS⟩ : ∃ BS, BS = bs.set p ⟨es, ag + 1⟩ := ⟨_, rfl⟩
      have HBS := hidE hBS
      rw [← hBS] at BSL BSP BSO
      clear hBS
      have R0 : Hid (RgB (fun q => q ≠ w.heap.size ∧ q ≠ w.heap.size + 1) w tw tw (.slice none 0 0) (BS.take 0)) := ⟨BT.out, Nat.le_refl _, fun q hq => by have := SZT.out; exact ⟨by omega, by omega⟩, [], rfl, World.ownsRow_nil _ _ _ _, fun i x ev h => by simp at h⟩
      go_wp2_with fail
      go_loopg [14, 15] n (fun gk s14 i wr => ∃ (k m : Nat) (A5 : Option Addr) (c5 : Nat), (gk = n - k ∧ k ≤ n ∧ RgB (fun q => q ≠ w.heap.size ∧ q ≠ w.heap.size + 1) w tw wr (.slice A5 m c5) (BS.take k) ∧ Below tw.heap.size tw wr) ∧ s14 = .slice A5 m c5 ∧ i = .int .i64 (k : Int))
      case atStart => exact ⟨0, 0, none, 0, ⟨rfl, by omega, R0.out, Below.refl _ _⟩, rfl, rfl⟩
      case round =>
        clear R0
        obtain ⟨kk, mm, A5, c5, ⟨hgk, hk, hG, hB⟩, rfl, rfl⟩ := hrel
        have HK := hidE hgk
        have HG := hidE hG
        have HBW := hidE hB
        have x3 : wr.cell? ⟨w.heap.size, 3, none⟩ = some (.slice (some ⟨bb, o, none⟩) n cap) := (KT.out.since hB).cell 3
        clear hgk hG hB
        have TL : Hid (mm = (BS.take kk).length) := by
          obtain ⟨A9, c9, e9⟩ := HG.out.slice
          cases e9
          rfl
        have TM : Hid (mm = kk) := by have e := TL.out; rw [List.length_take, BSL.out] at e; show mm = kk; omega
        by_cases hz : kk < n
        · have bk : (kk : Int) < (n : Int) := by omega
          have bk0 : (0 : Int) ≤ (kk : Int) := by omega
          obtain ⟨vs, vl, own, vx⟩ := id HG.out.row
          have HVX := hidE vx
          have HVL := hidE vl
          have OWB := hidE own
          have OWM : Hid (wr.ownsRow tw.heap.size 74 2 (.slice A5 mm c5) mm (bCells (vs.zip ((BS.take kk).map Bkt.ag)))) := by
            have e := OWB.out
            rw [← TL.out] at e
            exact e
          have SZ : Hid (tw.heap.size ≤ wr.heap.size) := HG.out.size
          have mb : mm ≤ 256 := by have := TM.out; omega
          clear vx vl own
          by_cases kp : kk = p
          · have qk : ((kk : Int) == (p : Int)) = true := by rw [kp]; simp
            have NX : Hid (BS.take (kk + 1) = BS.take kk ++ [⟨es, ag + 1⟩]) := hidE (take_nextE (by rw [kp]; exact BSP.out))
            have y0 : wr.cell? ⟨g7, 0, none⟩ = some (.slice (some ⟨be, oe, none⟩) m cp2) := (K7T.out.since HBW.out).cell 0
            have y1 : wr.cell? ⟨g7, 1, none⟩ = some (.int .i64 (ag + 1)) := (K7T.out.since HBW.out).cell 1
            have HEW : Hid (Held (fun q => q ≠ w.heap.size ∧ q ≠ w.heap.size + 1 ∧ some q ≠ (Value.slice A5 mm c5).ownBlock) (fun u => EntsE u (.slice (some ⟨be, oe, none⟩) m cp2) (⟨es, ag + 1⟩ : Bkt).es) wr) := hidE fun u e => HENT.out u ⟨by have := e.1; have := SZ.out; omega, fun q d hq => (e.2 q ⟨d.1, d.2, fun z => by have := (OWB.out.lt q z.symm).1; omega⟩ (by have := SZ.out; omega)).trans (HBW.out.block q hq)⟩
            clear kp
            go_wp2_with (at_builtin; refine wpList_append_lies _ rfl _ _ _ rfl tw.heap.size 74 ib (.agg #[.slice none 0 0, .int .i64 0]) 2 32 Try.underlying29 HTB.out.1 HTB.out.2.1 HTB.out.2.2.1 HTB.out.2.2.2 rfl (by omega) (.slice A5 mm c5) mm (bCells (vs.zip ((BS.take kk).map Bkt.ag))) (by rfl) (OWM.out.alloc _) ⟨wr.heap.size, 0, none⟩ 1 1 [.slice (some ⟨be, oe, none⟩) m cp2, .int .i64 (ag + 1)] (by rfl) rfl (new_it wr 74 _ _) (by intro z hz; simp at hz; rcases hz with rfl | rfl <;> rfl) (by omega) (by unfold maxLen; omega) (by omega) (by have := SZ.out; simp; omega) _ rfl ?_; intro gq cap1 w1 hown1 hgrow hat hlt1)
            have HEW2 : Held (fun q => (q ≠ w.heap.size ∧ q ≠ w.heap.size + 1) ∧ some q ≠ (Value.slice A5 mm c5).ownBlock) (fun u => EntsE u (.slice (some ⟨be, oe, none⟩) m cp2) (⟨es, ag + 1⟩ : Bkt).es) wr := HEW.out.mono fun q _ d => ⟨⟨d.1, d.2.1⟩, d.2.2⟩
            have HS := HG.out.step (x := ⟨es, ag + 1⟩) (ev := .slice (some ⟨be, oe, none⟩) m cp2) vs HVL.out OWB.out HVX.out HEW2 (by have := SZT.out; omega) (by
              have e := hown1
              rw [← TL.out]
              exact e) hgrow (hat.imp id fun z => by rw [z]; simp)
            rw [← TL.out] at HS
            have B9 : Below tw.heap.size tw w1 := (HBW.out.alloc SZ.out _).grown hgrow (by have := SZ.out; simp; omega) (fun q hq => (OWB.out.lt q hq).1)
            go_roundg (n - (kk + 1))
            case measure => have := HK.out; omega
            case rel => exact ⟨kk + 1, mm + 1, _, cap1, ⟨rfl, by omega, by rw [NX.out]; exact HS, B9⟩, rfl, by go_num⟩
          · have qk : ((kk : Int) == (p : Int)) = false := by simp; omega
            obtain ⟨y, hy⟩ : ∃ y, bs[kk]? = some y := ⟨_, List.getElem?_eq_getElem (by have := HN.out; omega)⟩
            have NX : Hid (BS.take (kk + 1) = BS.take kk ++ [y]) := hidE (take_nextE (by rw [BSO.out kk kp]; exact hy))
            obtain ⟨ev9, c1, c2, c3⟩ := H4.out kk y hy
            have c1 := keep_of_below (bel_trans BT.out HBW.out) _ _ c1
            have c2 := keep_of_below (bel_trans BT.out HBW.out) _ _ c2
            have HEW : Hid (Held (fun q => q ≠ w.heap.size ∧ q ≠ w.heap.size + 1 ∧ some q ≠ (Value.slice A5 mm c5).ownBlock) (fun u => EntsE u ev9 y.es) wr) := hidE fun u e => c3.keep (Same.keep ⟨by have := e.1; have := (bel_trans BT.out HBW.out).size; omega, fun q _ hq => (e.2 q ⟨by omega, by omega, fun z => by have := (OWB.out.lt q z.symm).1; have := SZT.out; omega⟩ (by have := (bel_trans BT.out HBW.out).size; omega)).trans ((bel_trans BT.out HBW.out).block q hq)⟩)
            obtain ⟨A8, c8, b8, o8, rfl, _⟩ := c3
            obtain ⟨m8, hm8⟩ : ∃ m8, m8 = y.es.length := ⟨_, rfl⟩
            have HM8 := hidE hm8
            obtain ⟨ag8, hag8⟩ : ∃ ag8, ag8 = y.ag := ⟨_, rfl⟩
            have HAG8 := hidE hag8
            rw [← hm8] at c1 HEW
            rw [← hag8] at c2
            clear hy hm8 hag8 kp
            go_wp2_with (at_builtin; refine wpList_append_lies _ rfl _ _ _ rfl tw.heap.size 74 ib (.agg #[.slice none 0 0, .int .i64 0]) 2 32 Try.underlying29 HTB.out.1 HTB.out.2.1 HTB.out.2.2.1 HTB.out.2.2.2 rfl (by omega) (.slice A5 mm c5) mm (bCells (vs.zip ((BS.take kk).map Bkt.ag))) (by rfl) (OWM.out.alloc _) ⟨wr.heap.size, 0, none⟩ 1 1 [.slice A8 m8 c8, .int .i64 (ag8)] (by rfl) rfl (new_it wr 74 _ _) (by intro z hz; simp at hz; rcases hz with rfl | rfl <;> rfl) (by omega) (by unfold maxLen; omega) (by omega) (by have := SZ.out; simp; omega) _ rfl ?_; intro gq cap1 w1 hown1 hgrow hat hlt1)
            have HEW2 : Held (fun q => (q ≠ w.heap.size ∧ q ≠ w.heap.size + 1) ∧ some q ≠ (Value.slice A5 mm c5).ownBlock) (fun u => EntsE u (.slice A8 m8 c8) (y : Bkt).es) wr := HEW.out.mono fun q _ d => ⟨⟨d.1, d.2.1⟩, d.2.2⟩
            have HS := HG.out.step (x := y) (ev := .slice A8 m8 c8) vs HVL.out OWB.out HVX.out HEW2 (by have := SZT.out; omega) (by
              have e := hown1
              rw [← TL.out]
              rw [HAG8.out] at e
              exact e) hgrow (hat.imp id fun z => by rw [z]; simp)
            rw [← TL.out] at HS
            have B9 : Below tw.heap.size tw w1 := (HBW.out.alloc SZ.out _).grown hgrow (by have := SZ.out; simp; omega) (fun q hq => (OWB.out.lt q hq).1)
            go_roundg (n - (kk + 1))
            case measure => have := HK.out; omega
            case rel => exact ⟨kk + 1, mm + 1, _, cap1, ⟨rfl, by omega, by rw [NX.out]; exact HS, B9⟩, rfl, by go_num⟩
        · have bk : ¬ (kk : Int) < (n : Int) := by omega
          have te : Hid (BS.take kk = BS) := hidE (List.take_of_length_le (by have := BSL.out; omega))
          have KW := hidE (KT.out.since HBW.out)
          have RW := hidE (RT.out.since HBW.out)
          have NL : Hid (mm = n) := by have := TM.out; show mm = n; omega
          have f3 := KW.out.frozen 3
          have KS : Hid (Blk (wr.setCell ⟨w.heap.size, 3, none⟩ (.slice A5 mm c5)) w.heap.size 32 #[.int .u64 S, .int .i64 room, .int .i64 votes, .slice A5 mm c5, .int .u64 LS, .int .i64 LM, .slice LB R lcb]) := set3_blk KW.out _
          have RS : Hid (Blk (wr.setCell ⟨w.heap.size, 3, none⟩ (.slice A5 mm c5)) (w.heap.size + 1) 32 #[.int .u64 0, .int .i64 0, .int .i64 0, .slice none 0 0, .int .u64 0, .int .i64 0, .slice none 0 0]) := RW.out.other (a := ⟨w.heap.size, 3, none⟩) (by show w.heap.size + 1 ≠ w.heap.size; omega) _
          have BS9 : Hid (Below w.heap.size w (wr.setCell ⟨w.heap.size, 3, none⟩ (.slice A5 mm c5))) := HG.out.since.setCell (p := ⟨w.heap.size, 3, none⟩) (Nat.le_refl _) _
          have SM9 : Hid (Same (fun q => q ≠ w.heap.size ∧ q ≠ w.heap.size + 1) wr (wr.setCell ⟨w.heap.size, 3, none⟩ (.slice A5 mm c5))) := Same.setCell (a := ⟨w.heap.size, 3, none⟩) (fun d => d.1 rfl) _
          have HBUC : Hid (Held (fun q => q ≠ w.heap.size ∧ q ≠ w.heap.size + 1) (fun u => BktsE u (.slice A5 mm c5) BS) (wr.setCell ⟨w.heap.size, 3, none⟩ (.slice A5 mm c5))) := by
            have e := HG.out.bkts
            rw [te.out] at e
            exact e.same SM9.out
          have HL9 : Hid (Held (fun q => q ≠ w.heap.size ∧ q ≠ w.heap.size + 1) (fun u => RowsI u (.slice LB R lcb) R (fun _ => c) ZA) (wr.setCell ⟨w.heap.size, 3, none⟩ (.slice A5 mm c5))) := (HLT.out.since HBW.out).same SM9.out
          go_upto_region 36 with fail
          clear x3 f3
          generalize wr.setCell ⟨w.heap.size, 3, none⟩ (.slice A5 mm c5) = w9 at KS RS BS9 HBUC HL9 ⊢
          have x0 : w9.cell? ⟨w.heap.size, 0, none⟩ = some (.int .u64 S) := KS.out.cell 0
          have x1 : w9.cell? ⟨w.heap.size, 1, none⟩ = some (.int .i64 room) := KS.out.cell 1
          have x2 : w9.cell? ⟨w.heap.size, 2, none⟩ = some (.int .i64 votes) := KS.out.cell 2
          have x3 : w9.cell? ⟨w.heap.size, 3, none⟩ = some (.slice A5 mm c5) := KS.out.cell 3
          have x4 : w9.cell? ⟨w.heap.size, 4, none⟩ = some (.int .u64 LS) := KS.out.cell 4
          have x5 : w9.cell? ⟨w.heap.size, 5, none⟩ = some (.int .i64 LM) := KS.out.cell 5
          have x6 : w9.cell? ⟨w.heap.size, 6, none⟩ = some (.slice LB R lcb) := KS.out.cell 6
          have r0 : w9.cell? ⟨w.heap.size + 1, 0, none⟩ = some (.int .u64 0) := RS.out.cell 0
          have r1 : w9.cell? ⟨w.heap.size + 1, 1, none⟩ = some (.int .i64 0) := RS.out.cell 1
          have r2 : w9.cell? ⟨w.heap.size + 1, 2, none⟩ = some (.int .i64 0) := RS.out.cell 2
          have r3 : w9.cell? ⟨w.heap.size + 1, 3, none⟩ = some (.slice none 0 0) := RS.out.cell 3
          have r4 : w9.cell? ⟨w.heap.size + 1, 4, none⟩ = some (.int .u64 0) := RS.out.cell 4
          have r5 : w9.cell? ⟨w.heap.size + 1, 5, none⟩ = some (.int .i64 0) := RS.out.cell 5
          have r6 : w9.cell? ⟨w.heap.size + 1, 6, none⟩ = some (.slice none 0 0) := RS.out.cell 6
          have z0 := RS.out.frozen 0
          have z1 := RS.out.frozen 1
          have z2 := RS.out.frozen 2
          have z3 := RS.out.frozen 3
          have z4 := RS.out.frozen 4
          have z5 := RS.out.frozen 5
          have z6 := RS.out.frozen 6
          go_wp2_with fail
          refine bodyPost_ret (v := .tuple #[.agg #[.int .u64 S, .int .i64 room, .int .i64 votes, .slice A5 mm c5, .int .u64 LS, .int .i64 LM, .slice LB R lcb], .bool true]) ?_ rfl ?_
          rotate_left
          · refine ⟨_, rfl, ?_, eput7_below BS9.out (by omega) _ _ _ _ _ _ _⟩
            have sm : Same (fun q => q ≠ w.heap.size ∧ q ≠ w.heap.size + 1) w9 (eput7 w9 (w.heap.size + 1) (.int .u64 S) (.int .i64 room) (.int .i64 votes) (.slice A5 mm c5) (.int .u64 LS) (.int .i64 LM) (.slice LB R lcb)) := ⟨by rw [eput7_size]; exact Nat.le_refl _, fun q d hq => eput7_heap _ _ _ _ _ _ _ _ _ q d.2⟩
            have h1 := (HBUC.out.same sm).at
            have h2 := (HL9.out.same sm).at
            rw [HBS.out] at h1
            exact ⟨_, _, rfl, h1, h2⟩
          have c3 := eput7_blk (t := 32) RS.out (.int .u64 S) (.int .i64 room) (.int .i64 votes) (.slice A5 mm c5) (.int .u64 LS) (.int .i64 LM) (.slice LB R lcb)
          have c30 := c3.cell 0
          have c31 := c3.cell 1
          have c32 := c3.cell 2
          have c33 := c3.cell 3
          have c34 := c3.cell 4
          have c35 := c3.cell 5
          have c36 := c3.cell 6
          change (results _ _).run _ (eput7 w9 (w.heap.size + 1) (.int .u64 S) (.int .i64 room) (.int .i64 votes) (.slice A5 mm c5) (.int .u64 LS) (.int .i64 LM) (.slice LB R lcb)) = .ok _ (eput7 w9 (w.heap.size + 1) (.int .u64 S) (.int .i64 room) (.int .i64 votes) (.slice A5 mm c5) (.int .u64 LS) (.int .i64 LM) (.slice LB R lcb))
          generalize eput7 w9 (w.heap.size + 1) (.int .u64 S) (.int .i64 room) (.int .i64 votes) (.slice A5 mm c5) (.int .u64 LS) (.int .i64 LM) (.slice LB R lcb) = W5 at c30 c31 c32 c33 c34 c35 c36
          simp [results, Try.results19, go_sem, c30, c31, c32, c33, c34, c35, c36]
end Go.Proofs.Ytihealembikkiaa
