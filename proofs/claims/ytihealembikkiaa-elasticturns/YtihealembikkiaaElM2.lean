
/-
  dispute and come of layer 15 (elastic): what they answer, and what they write.
  come of layer 15 (elastic), where the bucket has room: an entry more.
  come of layer 15 (elastic) as the plain functions say it; what a sketch is behind it.
-/
import Derived.Test.YtihealembikkiaaElM1
import Derived.Deep.AppendLies
import Derived.Test.YtihealembikkiaaElCtr
namespace Go.Proofs.Ytihealembikkiaa
open Go.RowKit Fm Bl Lt El L2 L14 Go.Deep Go.Shelf
set_option linter.unusedVariables false
set_option maxRecDepth 20000
set_option linter.unusedSimpArgs false

theorem e2size (w : World) (g : Nat) (a0 a1 : Value) : (eput2 w g a0 a1).heap.size = w.heap.size := by unfold eput2; rw [size_setCell, size_setCell]
/-- The cells of entries. -/
def cE (l : List Ent) (j : Nat) : Value := (eCells l)[j]?.getD undef
theorem cE_at {l : List Ent} {i : Nat} {e : Ent} (h : l[i]? = some e) : cE l (i * 3) = .string e.k ∧ cE l (i * 3 + 1) = .int .i64 e.v ∧ cE l (i * 3 + 2) = .bool e.f := by
  obtain ⟨g1, g2, g3⟩ := eCells_get l i e h
  unfold cE
  rw [g1, g2, g3]
  exact ⟨rfl, rfl, rfl⟩
theorem cE_set {l : List Ent} {i : Nat} {y : Ent} (hi : i < l.length) {j : Nat} (hj : j < l.length * 3) : (if j = i * 3 + 2 then Value.bool y.f else if j = i * 3 + 1 then .int .i64 y.v else if j = i * 3 then .string y.k else cE l j) = cE (l.set i y) j := by
  obtain ⟨a, r, hr, rfl⟩ : ∃ a r, r < 3 ∧ j = a * 3 + r := ⟨j / 3, j % 3, Nat.mod_lt _ (by omega), by omega⟩
  have al : a < l.length := by omega
  obtain ⟨x, hx⟩ : ∃ x, l[a]? = some x := ⟨_, List.getElem?_eq_getElem al⟩
  obtain ⟨c1, c2, c3⟩ := cE_at hx
  by_cases e : a = i
  · subst e
    obtain ⟨d1, d2, d3⟩ := cE_at (l := l.set a y) (i := a) (e := y) (by rw [List.getElem?_set]; simp [hi])
    rcases (show r = 0 ∨ r = 1 ∨ r = 2 by omega) with rfl | rfl | rfl
    · rw [if_neg (by omega), if_neg (by omega), if_pos (by omega)]; exact d1.symm
    · rw [if_neg (by omega), if_pos rfl]; exact d2.symm
    · rw [if_pos rfl]; exact d3.symm
  · obtain ⟨d1, d2, d3⟩ := cE_at (l := l.set i y) (i := a) (e := x) (by rw [List.getElem?_set, if_neg (fun z => e z.symm)]; exact hx)
    rw [if_neg (by omega), if_neg (by omega), if_neg (by omega)]
    rcases (show r = 0 ∨ r = 1 ∨ r = 2 by omega) with rfl | rfl | rfl
    · exact c1.trans d1.symm
    · exact c2.trans d2.symm
    · exact c3.trans d3.symm
theorem RowV.entsE {w : World} {g cap : Nat} {t : TypeId} {l : List Ent} (h : RowV w g t (l.length * 3) (cE l)) (hc : l.length ≤ cap) : Held (fun q => q = g) (fun u => EntsE u (.slice (some ⟨g, 0, none⟩) l.length cap) l) w := fun u e => by
  have h2 := h.of (e.2 g rfl h.lt)
  refine ⟨_, cap, g, 0, rfl, hc, fun _ => rfl, fun i x hi => ?_⟩
  have li := (List.getElem?_eq_some_iff.1 hi).1
  obtain ⟨g1, g2, g3⟩ := cE_at hi
  rw [Nat.zero_add, h2.cell (by omega), h2.cell (by omega), h2.cell (by omega)]
  exact ⟨by rw [g1], by rw [g2], by rw [g3]⟩
/-- A bucket of a row that is known, with entries of its own. -/
structure InB (w : World) (Bd g n p gp cap : Nat) (V : Nat → Value) (AG : Nat → Int) (es : List Ent) : Prop where
  row : RowK w g n V AG
  val : V p = .slice (some ⟨gp, 0, none⟩) es.length cap
  cp : es.length ≤ cap
  ents : RowV w gp 76 (es.length * 3) (cE es)
  ne : g ≠ gp
  bg : Bd ≤ g
  bp : Bd ≤ gp
  pn : p < n
  low : Bd ≤ w.heap.size
theorem InB.of {w w' : World} {Bd g n p gp cap : Nat} {V : Nat → Value} {AG : Nat → Int} {es : List Ent} (h : InB w Bd g n p gp cap V AG es) (e1 : w'.heap[g]? = w.heap[g]?) (e2 : w'.heap[gp]? = w.heap[gp]?) (z : w.heap.size ≤ w'.heap.size) : InB w' Bd g n p gp cap V AG es :=
  ⟨h.row.of e1, h.val, h.cp, h.ents.of e2, h.ne, h.bg, h.bp, h.pn, by have := h.low; omega⟩
theorem InB.since {w w' : World} {Bd g n p gp cap : Nat} {V : Nat → Value} {AG : Nat → Int} {es : List Ent} (h : InB w Bd g n p gp cap V AG es) (b : Below w.heap.size w w') : InB w' Bd g n p gp cap V AG es :=
  h.of (b.block g h.row.lt) (b.block gp h.ents.lt) b.size
theorem InB.setA {w : World} {Bd g n p gp cap : Nat} {V : Nat → Value} {AG : Nat → Int} {es : List Ent} (h : InB w Bd g n p gp cap V AG es) (x : Int) : InB (w.setCell ⟨g, p * 2 + 1, none⟩ (.int .i64 x)) Bd g n p gp cap V (fun j => if j = p then x else AG j) es :=
  ⟨h.row.setA p x, h.val, h.cp, h.ents.of (Below.heap_setCell _ _ _ _ (fun (z : gp = g) => h.ne z.symm)), h.ne, h.bg, h.bp, h.pn, by have := h.low; rw [size_setCell]; omega⟩
theorem InB.setV {w : World} {Bd g n p gp cap : Nat} {V : Nat → Value} {AG : Nat → Int} {es : List Ent} (h : InB w Bd g n p gp cap V AG es) {i : Nat} {k : ByteArray} {v : Int} {f : Bool} (hi : es[i]? = some ⟨k, v, f⟩) (x : Int) : InB (w.setCell ⟨gp, i * 3 + 1, none⟩ (.int .i64 x)) Bd g n p gp cap V AG (es.set i ⟨k, x, f⟩) := by
  have il := (List.getElem?_eq_some_iff.1 hi).1
  obtain ⟨c1, c2, c3⟩ := cE_at hi
  refine ⟨h.row.of (Below.heap_setCell _ _ _ _ h.ne), by rw [List.length_set]; exact h.val, by rw [List.length_set]; exact h.cp, ?_, h.ne, h.bg, h.bp, h.pn, by have := h.low; rw [size_setCell]; omega⟩
  rw [List.length_set]
  refine RowV.congr (h.ents.set (i * 3 + 1) (.int .i64 x)) fun j hj => ?_
  rw [← cE_set (y := ⟨k, x, f⟩) il hj]
  by_cases e1 : j = i * 3 + 1
  · rw [if_pos e1, if_neg (by omega), if_pos e1]
  · rw [if_neg e1, if_neg e1]
    by_cases e2 : j = i * 3 + 2
    · rw [if_pos e2, e2]; exact c3
    · rw [if_neg e2]
      by_cases e3 : j = i * 3
      · rw [if_pos e3, e3]; exact c1
      · rw [if_neg e3]
theorem InB.setE {w : World} {Bd g n p gp cap : Nat} {V : Nat → Value} {AG : Nat → Int} {es : List Ent} (h : InB w Bd g n p gp cap V AG es) {i : Nat} (il : i < es.length) (k : ByteArray) (v : Int) (f : Bool) : InB (((w.setCell ⟨gp, i * 3, none⟩ (.string k)).setCell ⟨gp, i * 3 + 1, none⟩ (.int .i64 v)).setCell ⟨gp, i * 3 + 2, none⟩ (.bool f)) Bd g n p gp cap V AG (es.set i ⟨k, v, f⟩) := by
  have far : ∀ (u : World) (j : Nat) (y : Value), (u.setCell ⟨gp, j, none⟩ y).heap[g]? = u.heap[g]? := fun u j y => Below.heap_setCell _ _ _ _ h.ne
  refine ⟨h.row.of ((far _ _ _).trans ((far _ _ _).trans (far _ _ _))), by rw [List.length_set]; exact h.val, by rw [List.length_set]; exact h.cp, ?_, h.ne, h.bg, h.bp, h.pn, by have := h.low; rw [size_setCell, size_setCell, size_setCell]; omega⟩
  rw [List.length_set]
  exact RowV.congr (((h.ents.set (i * 3) (.string k)).set (i * 3 + 1) (.int .i64 v)).set (i * 3 + 2) (.bool f)) fun j hj => cE_set (y := ⟨k, v, f⟩) il hj
theorem InB.cells {w : World} {Bd g n p gp cap : Nat} {V : Nat → Value} {AG : Nat → Int} {es : List Ent} (h : InB w Bd g n p gp cap V AG es) (i : Nat) (e : Ent) (he : es[i]? = some e) : w.cell? ⟨gp, 0 + i * 3, none⟩ = some (.string e.k) ∧ w.cell? ⟨gp, 0 + i * 3 + 1, none⟩ = some (.int .i64 e.v) ∧ w.cell? ⟨gp, 0 + i * 3 + 2, none⟩ = some (.bool e.f) := by
  have li := (List.getElem?_eq_some_iff.1 he).1
  obtain ⟨g1, g2, g3⟩ := cE_at he
  rw [Nat.zero_add, h.ents.cell (by omega), h.ents.cell (by omega), h.ents.cell (by omega)]
  exact ⟨by rw [g1], by rw [g2], by rw [g3]⟩
/-- All but two blocks stand. -/
def Far (w w' : World) (Bd g gp : Nat) : Prop := Same (fun q => q ≠ g ∧ q ≠ gp) w w' ∧ Below Bd w w'
theorem Far.mk' {w u : World} {Bd g gp : Nat} (b : Below w.heap.size w u) (z : Bd ≤ w.heap.size) : Far w u Bd g gp := ⟨Same.below b, b.mono z⟩
theorem Far.drew {w u : World} {Bd g gp : Nat} (h : Far w u Bd g gp) : Far w u.drew Bd g gp := ⟨⟨h.1.1, h.1.2⟩, h.2.drew⟩
theorem Far.since {w u w' : World} {Bd g gp : Nat} (h : Far w u Bd g gp) (b : Below u.heap.size u w') (z : Bd ≤ u.heap.size) : Far w w' Bd g gp := ⟨h.1.trans (Same.below b), h.2.trans (b.mono z)⟩
theorem Far.set {w u : World} {Bd g gp : Nat} (h : Far w u Bd g gp) {a : Addr} (e : a.block = g ∨ a.block = gp) (z1 : Bd ≤ g) (z2 : Bd ≤ gp) (v : Value) : Far w (u.setCell a v) Bd g gp :=
  ⟨h.1.trans (Same.setCell (fun d => e.elim d.1 d.2) v), h.2.setCell (by rcases e with e | e <;> rw [e] <;> assumption) v⟩
theorem Far.put {w u : World} {Bd g gp R : Nat} (h : Far w u Bd g gp) (r : w.heap.size ≤ R) (z : Bd ≤ R) (x y : Value) : Far w (eput2 u R x y) Bd g gp :=
  ⟨⟨by have := h.1.1; unfold eput2; rw [size_setCell, size_setCell]; exact this, fun q d hq => (eput2_heap _ _ _ _ q (by omega)).trans (h.1.2 q d hq)⟩, eput2_below h.2 z _ _⟩
set_option maxHeartbeats 3200000 in
theorem edispute_out (w : World) (Bd g n p gp cap : Nat) (V : Nat → Value) (AG : Nat → Int) (es : List Ent) (k : ByteArray) (v : Int) (f : Bool) (t : ByteArray) (d : Int) (d0 : Bool) (votes : Int) (h : InB w Bd g n p gp cap V AG es) (hlow : es[lowAt es]? = some ⟨t, d, d0⟩) (el : es.length ≤ 1000) (v1 : 1 ≤ votes) (v2 : votes ≤ 64) (dd1 : 1 ≤ d) (dd2 : d ≤ 1099511627776) (cond : AG p < votes * d) :
    Calls Try.prog 56 #[.pointer (some ⟨g, p * 2, none⟩), .agg #[.string k, .int .i64 v, .bool f], .int .i64 votes] w fun e w' => e = .returned (.agg #[.string k, .int .i64 v]) ∧ Below w.heap.size w w' := by
  have BX : Hid (Below w.heap.size w ((w.alloc (.cells #[.string k, .int .i64 v, .bool f] 76)).alloc (.cells #[.string ⟨#[]⟩, .int .i64 0] 68))) := (bel_alloc _ _).alloc (by simp) _
  have KX : Hid (Blk ((w.alloc (.cells #[.string k, .int .i64 v, .bool f] 76)).alloc (.cells #[.string ⟨#[]⟩, .int .i64 0] 68)) w.heap.size 76 #[.string k, .int .i64 v, .bool f]) := (Blk.new _ _ _).alloc _
  have KR : Hid (Blk ((w.alloc (.cells #[.string k, .int .i64 v, .bool f] 76)).alloc (.cells #[.string ⟨#[]⟩, .int .i64 0] 68)) (w.heap.size + 1) 68 #[.string ⟨#[]⟩, .int .i64 0]) := by
    have e := Blk.new (w.alloc (.cells #[.string k, .int .i64 v, .bool f] 76)) 68 #[.string ⟨#[]⟩, .int .i64 0]
    simp only [World.size_alloc] at e
    exact e
  have ml : lowAt es < es.length := (List.getElem?_eq_some_iff.1 hlow).1
  have IX : Hid (InB ((w.alloc (.cells #[.string k, .int .i64 v, .bool f] 76)).alloc (.cells #[.string ⟨#[]⟩, .int .i64 0] 68)) Bd g n p gp cap V AG es) := h.since BX.out
  have HL := hidE hlow
  have gl := hidE (And.intro h.row.lt (And.intro h.ents.lt h.low))
  obtain ⟨m, hm⟩ : ∃ m, m = es.length := ⟨_, rfl⟩
  obtain ⟨q, hq⟩ : ∃ q, q = lowAt es := ⟨_, rfl⟩
  obtain ⟨ag, hag⟩ : ∃ ag, ag = AG p := ⟨_, rfl⟩
  have HMQ : Hid (m = es.length ∧ q = lowAt es ∧ ag = AG p) := ⟨hm, hq, hag⟩
  rw [← hag] at cond
  rw [← hm, ← hq] at ml
  have mm : votes * d ≤ 64 * d := Int.mul_le_mul_of_nonneg_right v2 (by omega)
  have m0 : 0 ≤ votes * d := Int.mul_nonneg (by omega) (by omega)
  have wm : IntKind.i64.wrap (votes * d) = votes * d := by rw [IntKind.wrap_i64]; omega
  have bq : (q : Int) < (m : Int) := by omega
  have bq0 : (0 : Int) ≤ (q : Int) := by omega
  have EL := hidE el
  clear h hlow hm hq hag mm m0 el
  have CW := hidE fun u (b : Below ((w.alloc (.cells #[.string k, .int .i64 v, .bool f] 76)).alloc (.cells #[.string ⟨#[]⟩, .int .i64 0] 68)).heap.size ((w.alloc (.cells #[.string k, .int .i64 v, .bool f] 76)).alloc (.cells #[.string ⟨#[]⟩, .int .i64 0] 68)) u) => eweakest_any u es gp 0 m cap HMQ.out.1 (by omega) (by have := HMQ.out.1; have := EL.out; omega) (by have := HMQ.out.1; have := IX.out.cp; omega) (IX.out.since b).cells
  have y0 : ((w.alloc (.cells #[.string k, .int .i64 v, .bool f] 76)).alloc (.cells #[.string ⟨#[]⟩, .int .i64 0] 68)).cell? ⟨g, p * 2, none⟩ = some (.slice (some ⟨gp, 0, none⟩) m cap) := by rw [HMQ.out.1, ← IX.out.val]; exact IX.out.row.ents IX.out.pn
  go_enter Try.func56, Try.ntmps56
  go_wp2_with fail
  generalize ((w.alloc (.cells #[.string k, .int .i64 v, .bool f] 76)).alloc (.cells #[.string ⟨#[]⟩, .int .i64 0] 68)) = X at BX KX KR IX CW y0 ⊢
  rw [← HMQ.out.2.1] at CW
  refine (CW.out _ (Below.refl _ _)).mono ?_
  rintro e u1 ⟨rfl, b1⟩
  have I1 := hidE (IX.out.since b1)
  have K1 := hidE (KX.out.since b1)
  have R1 := hidE (KR.out.since b1)
  have B1 := hidE (bel_trans BX.out b1)
  clear b1 BX KX KR IX CW y0
  have HC : Hid (es[q]? = some ⟨t, d, d0⟩) := by rw [HMQ.out.2.1]; exact HL.out
  have y0 : u1.cell? ⟨g, p * 2, none⟩ = some (.slice (some ⟨gp, 0, none⟩) m cap) := by rw [HMQ.out.1, ← I1.out.val]; exact I1.out.row.ents I1.out.pn
  obtain ⟨c0, c1, c2⟩ := I1.out.cells q _ HC.out
  rw [Nat.zero_add] at c0 c1 c2
  simp only at c0 c1 c2
  have BA : Hid (Below u1.heap.size u1 (u1.alloc (.cells #[.string t, .int .i64 d, .bool d0] 76))) := bel_alloc _ _
  have KA : Hid (Blk (u1.alloc (.cells #[.string t, .int .i64 d, .bool d0] 76)) u1.heap.size 76 #[.string t, .int .i64 d, .bool d0]) := Blk.new _ _ _
  go_upto_region 3 with fail
  have I2 := hidE (I1.out.since BA.out)
  have K2 := hidE (K1.out.since BA.out)
  have R2 := hidE (R1.out.since BA.out)
  have B2 := hidE (bel_trans B1.out BA.out)
  have GA : Hid (w.heap.size ≤ u1.heap.size ∧ w.heap.size + 1 < u1.heap.size) := ⟨B1.out.size, R1.out.lt⟩
  clear I1 K1 R1 B1 BA y0 c0 c1 c2
  generalize u1.alloc (.cells #[.string t, .int .i64 d, .bool d0] 76) = Y at KA I2 K2 R2 B2 ⊢
  generalize u1.heap.size = ga at KA GA ⊢
  have y0 : Y.cell? ⟨g, p * 2 + 1, none⟩ = some (.int .i64 ag) := by rw [HMQ.out.2.2]; exact I2.out.row.ag I2.out.pn
  have y1 : Y.cell? ⟨ga, 1, none⟩ = some (.int .i64 d) := KA.out.cell 1
  go_quiet (fail)
  have I3 : Hid (InB (Y.drewN nq) Bd g n p gp cap V AG es) := I2.out.of rfl rfl (Nat.le_refl _)
  have K3 : Hid (Blk (Y.drewN nq) w.heap.size 76 #[.string k, .int .i64 v, .bool f]) := K2.out
  have A3 : Hid (Blk (Y.drewN nq) ga 76 #[.string t, .int .i64 d, .bool d0]) := KA.out
  have R3 : Hid (Blk (Y.drewN nq) (w.heap.size + 1) 68 #[.string ⟨#[]⟩, .int .i64 0]) := R2.out
  have B3 : Hid (Below w.heap.size w (Y.drewN nq)) := below_drewN B2.out nq
  clear I2 K2 R2 B2 KA y0 y1
  generalize Y.drewN nq = Z at I3 K3 A3 R3 B3 ⊢
  have k0 : Z.cell? ⟨w.heap.size, 0, none⟩ = some (.string k) := K3.out.cell 0
  have k1 : Z.cell? ⟨w.heap.size, 1, none⟩ = some (.int .i64 v) := K3.out.cell 1
  have k2 : Z.cell? ⟨w.heap.size, 2, none⟩ = some (.bool f) := K3.out.cell 2
  go_wp2_with fail
  refine (eitem_any Z k v f).mono ?_
  rintro e u3 ⟨rfl, b3⟩
  have R4 := hidE (R3.out.since b3)
  have B4 := hidE (bel_trans B3.out b3)
  clear b3 k0 k1 k2
  have r0 : u3.cell? ⟨w.heap.size + 1, 0, none⟩ = some (.string ⟨#[]⟩) := R4.out.cell 0
  have r1 : u3.cell? ⟨w.heap.size + 1, 1, none⟩ = some (.int .i64 0) := R4.out.cell 1
  have z0 := R4.out.frozen 0
  have z1 := R4.out.frozen 1
  go_wp2_with fail
  refine bodyPost_ret (v := .agg #[.string k, .int .i64 v]) ?_ rfl ?_
  rotate_left
  · exact ⟨rfl, eput2_below B4.out (by omega) _ _⟩
  have c3 := eput2_blk (t := 68) R4.out (.string k) (.int .i64 v)
  have c30 := c3.cell 0
  have c31 := c3.cell 1
  change (results _ _).run _ (eput2 u3 (w.heap.size + 1) (.string k) (.int .i64 v)) = .ok _ (eput2 u3 (w.heap.size + 1) (.string k) (.int .i64 v))
  generalize eput2 u3 (w.heap.size + 1) (.string k) (.int .i64 v) = W5 at c30 c31
  simp [results, Try.results56, go_sem, c30, c31]
set_option maxHeartbeats 3200000 in
theorem edispute_in (w : World) (Bd g n p gp cap : Nat) (V : Nat → Value) (AG : Nat → Int) (es : List Ent) (k : ByteArray) (v : Int) (f : Bool) (t : ByteArray) (d : Int) (d0 : Bool) (votes : Int) (h : InB w Bd g n p gp cap V AG es) (hlow : es[lowAt es]? = some ⟨t, d, d0⟩) (el : es.length ≤ 1000) (v1 : 1 ≤ votes) (v2 : votes ≤ 64) (dd1 : 1 ≤ d) (dd2 : d ≤ 1099511627776) (cond : ¬ AG p < votes * d) :
    Calls Try.prog 56 #[.pointer (some ⟨g, p * 2, none⟩), .agg #[.string k, .int .i64 v, .bool f], .int .i64 votes] w fun e w' => e = .returned (.agg #[.string t, .int .i64 d]) ∧ InB w' Bd g n p gp cap V (fun j => if j = p then 0 else AG j) (es.set (lowAt es) ⟨k, v, f⟩) ∧ Far w w' Bd g gp := by
  have BX : Hid (Below w.heap.size w ((w.alloc (.cells #[.string k, .int .i64 v, .bool f] 76)).alloc (.cells #[.string ⟨#[]⟩, .int .i64 0] 68))) := (bel_alloc _ _).alloc (by simp) _
  have KX : Hid (Blk ((w.alloc (.cells #[.string k, .int .i64 v, .bool f] 76)).alloc (.cells #[.string ⟨#[]⟩, .int .i64 0] 68)) w.heap.size 76 #[.string k, .int .i64 v, .bool f]) := (Blk.new _ _ _).alloc _
  have KR : Hid (Blk ((w.alloc (.cells #[.string k, .int .i64 v, .bool f] 76)).alloc (.cells #[.string ⟨#[]⟩, .int .i64 0] 68)) (w.heap.size + 1) 68 #[.string ⟨#[]⟩, .int .i64 0]) := by
    have e := Blk.new (w.alloc (.cells #[.string k, .int .i64 v, .bool f] 76)) 68 #[.string ⟨#[]⟩, .int .i64 0]
    simp only [World.size_alloc] at e
    exact e
  have ml : lowAt es < es.length := (List.getElem?_eq_some_iff.1 hlow).1
  have IX : Hid (InB ((w.alloc (.cells #[.string k, .int .i64 v, .bool f] 76)).alloc (.cells #[.string ⟨#[]⟩, .int .i64 0] 68)) Bd g n p gp cap V AG es) := h.since BX.out
  have HL := hidE hlow
  have gl := hidE (And.intro h.row.lt (And.intro h.ents.lt h.low))
  obtain ⟨m, hm⟩ : ∃ m, m = es.length := ⟨_, rfl⟩
  obtain ⟨q, hq⟩ : ∃ q, q = lowAt es := ⟨_, rfl⟩
  obtain ⟨ag, hag⟩ : ∃ ag, ag = AG p := ⟨_, rfl⟩
  have HMQ : Hid (m = es.length ∧ q = lowAt es ∧ ag = AG p) := ⟨hm, hq, hag⟩
  rw [← hag] at cond
  rw [← hm, ← hq] at ml
  have mm : votes * d ≤ 64 * d := Int.mul_le_mul_of_nonneg_right v2 (by omega)
  have m0 : 0 ≤ votes * d := Int.mul_nonneg (by omega) (by omega)
  have wm : IntKind.i64.wrap (votes * d) = votes * d := by rw [IntKind.wrap_i64]; omega
  have bq : (q : Int) < (m : Int) := by omega
  have bq0 : (0 : Int) ≤ (q : Int) := by omega
  have EL := hidE el
  clear h hlow hm hq hag mm m0 el
  have CW := hidE fun u (b : Below ((w.alloc (.cells #[.string k, .int .i64 v, .bool f] 76)).alloc (.cells #[.string ⟨#[]⟩, .int .i64 0] 68)).heap.size ((w.alloc (.cells #[.string k, .int .i64 v, .bool f] 76)).alloc (.cells #[.string ⟨#[]⟩, .int .i64 0] 68)) u) => eweakest_any u es gp 0 m cap HMQ.out.1 (by omega) (by have := HMQ.out.1; have := EL.out; omega) (by have := HMQ.out.1; have := IX.out.cp; omega) (IX.out.since b).cells
  have y0 : ((w.alloc (.cells #[.string k, .int .i64 v, .bool f] 76)).alloc (.cells #[.string ⟨#[]⟩, .int .i64 0] 68)).cell? ⟨g, p * 2, none⟩ = some (.slice (some ⟨gp, 0, none⟩) m cap) := by rw [HMQ.out.1, ← IX.out.val]; exact IX.out.row.ents IX.out.pn
  go_enter Try.func56, Try.ntmps56
  go_wp2_with fail
  generalize ((w.alloc (.cells #[.string k, .int .i64 v, .bool f] 76)).alloc (.cells #[.string ⟨#[]⟩, .int .i64 0] 68)) = X at BX KX KR IX CW y0 ⊢
  rw [← HMQ.out.2.1] at CW
  refine (CW.out _ (Below.refl _ _)).mono ?_
  rintro e u1 ⟨rfl, b1⟩
  have I1 := hidE (IX.out.since b1)
  have K1 := hidE (KX.out.since b1)
  have R1 := hidE (KR.out.since b1)
  have B1 := hidE (bel_trans BX.out b1)
  clear b1 BX KX KR IX CW y0
  have HC : Hid (es[q]? = some ⟨t, d, d0⟩) := by rw [HMQ.out.2.1]; exact HL.out
  have y0 : u1.cell? ⟨g, p * 2, none⟩ = some (.slice (some ⟨gp, 0, none⟩) m cap) := by rw [HMQ.out.1, ← I1.out.val]; exact I1.out.row.ents I1.out.pn
  obtain ⟨c0, c1, c2⟩ := I1.out.cells q _ HC.out
  rw [Nat.zero_add] at c0 c1 c2
  simp only at c0 c1 c2
  have BA : Hid (Below u1.heap.size u1 (u1.alloc (.cells #[.string t, .int .i64 d, .bool d0] 76))) := bel_alloc _ _
  have KA : Hid (Blk (u1.alloc (.cells #[.string t, .int .i64 d, .bool d0] 76)) u1.heap.size 76 #[.string t, .int .i64 d, .bool d0]) := Blk.new _ _ _
  go_upto_region 3 with fail
  have I2 := hidE (I1.out.since BA.out)
  have K2 := hidE (K1.out.since BA.out)
  have R2 := hidE (R1.out.since BA.out)
  have B2 := hidE (bel_trans B1.out BA.out)
  have GA : Hid (w.heap.size ≤ u1.heap.size ∧ w.heap.size + 1 < u1.heap.size) := ⟨B1.out.size, R1.out.lt⟩
  clear I1 K1 R1 B1 BA y0 c0 c1 c2
  generalize u1.alloc (.cells #[.string t, .int .i64 d, .bool d0] 76) = Y at KA I2 K2 R2 B2 ⊢
  generalize u1.heap.size = ga at KA GA ⊢
  have y0 : Y.cell? ⟨g, p * 2 + 1, none⟩ = some (.int .i64 ag) := by rw [HMQ.out.2.2]; exact I2.out.row.ag I2.out.pn
  have y1 : Y.cell? ⟨ga, 1, none⟩ = some (.int .i64 d) := KA.out.cell 1
  go_quiet (fail)
  have I3 : Hid (InB (Y.drewN nq) Bd g n p gp cap V AG es) := I2.out.of rfl rfl (Nat.le_refl _)
  have K3 : Hid (Blk (Y.drewN nq) w.heap.size 76 #[.string k, .int .i64 v, .bool f]) := K2.out
  have A3 : Hid (Blk (Y.drewN nq) ga 76 #[.string t, .int .i64 d, .bool d0]) := KA.out
  have R3 : Hid (Blk (Y.drewN nq) (w.heap.size + 1) 68 #[.string ⟨#[]⟩, .int .i64 0]) := R2.out
  have B3 : Hid (Below w.heap.size w (Y.drewN nq)) := below_drewN B2.out nq
  clear I2 K2 R2 B2 KA y0 y1
  generalize Y.drewN nq = Z at I3 K3 A3 R3 B3 ⊢
  have k0 : Z.cell? ⟨w.heap.size, 0, none⟩ = some (.string k) := K3.out.cell 0
  have k1 : Z.cell? ⟨w.heap.size, 1, none⟩ = some (.int .i64 v) := K3.out.cell 1
  have k2 : Z.cell? ⟨w.heap.size, 2, none⟩ = some (.bool f) := K3.out.cell 2
  have y0 : Z.cell? ⟨g, p * 2, none⟩ = some (.slice (some ⟨gp, 0, none⟩) m cap) := by rw [HMQ.out.1, ← I3.out.val]; exact I3.out.row.ents I3.out.pn
  obtain ⟨c0, c1, c2⟩ := I3.out.cells q _ HC.out
  rw [Nat.zero_add] at c0 c1 c2
  simp only at c0 c1 c2
  have f0 := I3.out.ents.frozen (q * 3)
  have f1 := I3.out.ents.frozen (q * 3 + 1)
  have f2 := I3.out.ents.frozen (q * 3 + 2)
  go_wp2_with fail
  go_region_with fail
  all_goals
    have il : q < es.length := by rw [← HMQ.out.1]; exact ml
    have I4 : Hid (InB (((Z.setCell ⟨gp, q * 3, none⟩ (.string k)).setCell ⟨gp, q * 3 + 1, none⟩ (.int .i64 v)).setCell ⟨gp, q * 3 + 2, none⟩ (.bool f)).drew Bd g n p gp cap V AG (es.set q ⟨k, v, f⟩)) := (I3.out.setE il k v f).of rfl rfl (Nat.le_refl _)
    have F4 : Hid (Far w (((Z.setCell ⟨gp, q * 3, none⟩ (.string k)).setCell ⟨gp, q * 3 + 1, none⟩ (.int .i64 v)).setCell ⟨gp, q * 3 + 2, none⟩ (.bool f)).drew Bd g gp) := ((((Far.mk' B3.out gl.out.2.2).set (a := ⟨gp, q * 3, none⟩) (Or.inr rfl) I3.out.bg I3.out.bp _).set (a := ⟨gp, q * 3 + 1, none⟩) (Or.inr rfl) I3.out.bg I3.out.bp _).set (a := ⟨gp, q * 3 + 2, none⟩) (Or.inr rfl) I3.out.bg I3.out.bp _).drew
    have A4 : Hid (Blk (((Z.setCell ⟨gp, q * 3, none⟩ (.string k)).setCell ⟨gp, q * 3 + 1, none⟩ (.int .i64 v)).setCell ⟨gp, q * 3 + 2, none⟩ (.bool f)).drew ga 76 #[.string t, .int .i64 d, .bool d0]) := by
      have ne : ga ≠ gp := by have := gl.out.2.1; have := GA.out.1; omega
      exact (((A3.out.other (a := ⟨gp, q * 3, none⟩) ne _).other (a := ⟨gp, q * 3 + 1, none⟩) ne _).other (a := ⟨gp, q * 3 + 2, none⟩) ne _).drew
    have R4 : Hid (Blk (((Z.setCell ⟨gp, q * 3, none⟩ (.string k)).setCell ⟨gp, q * 3 + 1, none⟩ (.int .i64 v)).setCell ⟨gp, q * 3 + 2, none⟩ (.bool f)).drew (w.heap.size + 1) 68 #[.string ⟨#[]⟩, .int .i64 0]) := by
      have ne : w.heap.size + 1 ≠ gp := by have := gl.out.2.1; omega
      exact (((R3.out.other (a := ⟨gp, q * 3, none⟩) ne _).other (a := ⟨gp, q * 3 + 1, none⟩) ne _).other (a := ⟨gp, q * 3 + 2, none⟩) ne _).drew
    clear y0 c0 c1 c2 f0 f1 f2 k0 k1 k2 A3 R3 K3 B3
    generalize (((Z.setCell ⟨gp, q * 3, none⟩ (.string k)).setCell ⟨gp, q * 3 + 1, none⟩ (.int .i64 v)).setCell ⟨gp, q * 3 + 2, none⟩ (.bool f)).drew = Y4 at I4 F4 A4 R4 ⊢
    have y0 : Y4.cell? ⟨g, p * 2 + 1, none⟩ = some (.int .i64 ag) := by rw [HMQ.out.2.2]; exact I4.out.row.ag I4.out.pn
    have f0 := I4.out.row.frozen (p * 2 + 1)
    have I5 := hidE (I4.out.setA 0)
    have F5 := hidE (F4.out.set (a := ⟨g, p * 2 + 1, none⟩) (Or.inl rfl) I4.out.bg I4.out.bp (.int .i64 0))
    have A5 := hidE (A4.out.other (a := ⟨g, p * 2 + 1, none⟩) (by show ga ≠ g; have := gl.out.1; have := GA.out.1; omega) (.int .i64 0))
    have R5 := hidE (R4.out.other (a := ⟨g, p * 2 + 1, none⟩) (by show w.heap.size + 1 ≠ g; have := gl.out.1; omega) (.int .i64 0))
    have a0 : (Y4.setCell ⟨g, p * 2 + 1, none⟩ (.int .i64 0)).cell? ⟨ga, 0, none⟩ = some (.string t) := A5.out.cell 0
    have a1 : (Y4.setCell ⟨g, p * 2 + 1, none⟩ (.int .i64 0)).cell? ⟨ga, 1, none⟩ = some (.int .i64 d) := A5.out.cell 1
    have a2 : (Y4.setCell ⟨g, p * 2 + 1, none⟩ (.int .i64 0)).cell? ⟨ga, 2, none⟩ = some (.bool d0) := A5.out.cell 2
    clear I4 F4 A4 R4
    go_wp2_with fail
    clear y0 f0
    generalize Y4.setCell ⟨g, p * 2 + 1, none⟩ (.int .i64 0) = Y5 at I5 F5 A5 R5 a0 a1 a2 ⊢
    refine (eitem_any Y5 t d d0).mono ?_
    rintro e u3 ⟨rfl, b3⟩
    have R6 := hidE (R5.out.since b3)
    have I6 := hidE (I5.out.since b3)
    have F6 := hidE (F5.out.since b3 I5.out.low)
    clear b3 a0 a1 a2 I5 F5 A5 R5
    have r0 : u3.cell? ⟨w.heap.size + 1, 0, none⟩ = some (.string ⟨#[]⟩) := R6.out.cell 0
    have r1 : u3.cell? ⟨w.heap.size + 1, 1, none⟩ = some (.int .i64 0) := R6.out.cell 1
    have z0 := R6.out.frozen 0
    have z1 := R6.out.frozen 1
    go_wp2_with fail
    refine bodyPost_ret (v := .agg #[.string t, .int .i64 d]) ?_ rfl ?_
    rotate_left
    · exact ⟨rfl, by rw [← HMQ.out.2.1]; exact I6.out.of (eput2_heap _ _ _ _ _ (by have := gl.out.1; omega)) (eput2_heap _ _ _ _ _ (by have := gl.out.2.1; omega)) (Nat.le_of_eq (e2size _ _ _ _).symm), F6.out.put (by omega) (by have := gl.out.2.2; omega) _ _⟩
    have c3 := eput2_blk (t := 68) R6.out (.string t) (.int .i64 d)
    have c30 := c3.cell 0
    have c31 := c3.cell 1
    change (results _ _).run _ (eput2 u3 (w.heap.size + 1) (.string t) (.int .i64 d)) = .ok _ (eput2 u3 (w.heap.size + 1) (.string t) (.int .i64 d))
    generalize eput2 u3 (w.heap.size + 1) (.string t) (.int .i64 d) = W5 at c30 c31
    simp [results, Try.results56, go_sem, c30, c31]
/-- What a key that came has done to its bucket: the row with one bucket otherwise, its entries in a block of the call's own. -/
def CameP (w w' : World) (Bd g n p : Nat) (V : Nat → Value) (AG : Nat → Int) (b : Bkt) : Prop :=
  ∃ (V' : Nat → Value) (AG' : Nat → Int) (gp : Nat), RowK w' g n V' AG' ∧ AG' p = b.ag ∧ (∀ i, i ≠ p → V' i = V i ∧ AG' i = AG i) ∧ Bd ≤ gp ∧ Held (fun q => q = gp) (fun u => EntsE u (V' p) b.es) w' ∧ Same (fun q => q ≠ g ∧ some q ≠ (V p).ownBlock) w w' ∧ Below Bd w w'
theorem InB.came {w w' : World} {Bd g n p gp cap : Nat} {V : Nat → Value} {AG AG' : Nat → Int} {es : List Ent} (h : InB w' Bd g n p gp cap V AG' es) (f : Far w w' Bd g gp) (a : ∀ i, i ≠ p → AG' i = AG i) (x : Int) (hx : AG' p = x) : CameP w w' Bd g n p V AG ⟨es, x⟩ := by
  refine ⟨V, AG', gp, h.row, hx, fun i hi => ⟨rfl, a i hi⟩, h.bp, ?_, f.1.mono fun q _ d => ⟨d.1, fun z => d.2 (by rw [h.val, z]; rfl)⟩, f.2⟩
  rw [h.val]
  exact h.ents.entsE h.cp
theorem InB.here {w u : World} {Bd g n p gp cap : Nat} {V : Nat → Value} {AG : Nat → Int} {es : List Ent} (h : InB w Bd g n p gp cap V AG es) (b : Below w.heap.size w u) : EntsE u (V p) es := by
  rw [h.val]
  exact ((h.since b).ents.entsE h.cp).at
set_option maxHeartbeats 3200000 in
theorem ecome_at (w : World) (Bd g n p cb : Nat) (V : Nat → Value) (AG : Nat → Int) (es : List Ent) (S room votes LS LM : Int) (rv : Value) (s : ByteArray) (pn : p < n) (nc : n ≤ cb) (el : es.length ≤ 1000) (PC : Hid (∀ u, Below w.heap.size w u → Calls Try.prog 53 #[.agg #[.int .u64 S, .int .i64 room, .int .i64 votes, .slice (some ⟨g, 0, none⟩) n cb, .int .u64 LS, .int .i64 LM, rv], .string s] u fun e w' => e = .returned (.int .i64 (p : Int)) ∧ Below u.heap.size u w')) (gp cap : Nat) (h : InB w Bd g n p gp cap V AG es) (i : Nat) (k : ByteArray) (v : Int) (f : Bool) (ha : atE es s = some i) (hi : es[i]? = some ⟨k, v, f⟩) (v0 : 0 ≤ v) (v1 : v < 1099511627776) :
    Calls Try.prog 29 #[.agg #[.int .u64 S, .int .i64 room, .int .i64 votes, .slice (some ⟨g, 0, none⟩) n cb, .int .u64 LS, .int .i64 LM, rv], .string s] w fun e w' => e = .returned (.tuple #[.agg #[.string ⟨#[]⟩, .int .i64 0], .int .i64 0]) ∧ CameP w w' Bd g n p V AG ⟨es.set i ⟨k, v + 1, f⟩, AG p⟩ := by
  have IB := hidE h
  have gl := hidE (And.intro h.row.lt (And.intro h.ents.lt h.low))
  have EL := hidE el
  have EA := hidE fun u (b : Below w.heap.size w u) => efind_any u (V p) es s (h.here b) (by omega)
  rw [h.val] at EA
  have HVP := hidE h.val
  have RK := hidE h.row
  obtain ⟨m, hm⟩ : ∃ m, m = es.length := ⟨_, rfl⟩
  have HM := hidE hm
  rw [← hm] at EA HVP
  clear h hm el
  rw [atI_some ha] at EA
  have il : i < m := by rw [HM.out]; exact (List.getElem?_eq_some_iff.1 hi).1
  have bi : (i : Int) < (m : Int) := by omega
  have bi0 : (i : Int) ≥ 0 := by omega
  have bi1 : (0 : Int) ≤ (i : Int) := by omega
  have HI := hidE hi
  clear ha hi
  have BX : Hid (Below w.heap.size w ((w.alloc (.cells #[.int .u64 S, .int .i64 room, .int .i64 votes, .slice (some ⟨g, 0, none⟩) n cb, .int .u64 LS, .int .i64 LM, rv] 28)).alloc (.cells #[.string ⟨#[]⟩, .int .i64 0] 68))) := (bel_alloc _ _).alloc (by simp) _
  have KX : Hid (Blk ((w.alloc (.cells #[.int .u64 S, .int .i64 room, .int .i64 votes, .slice (some ⟨g, 0, none⟩) n cb, .int .u64 LS, .int .i64 LM, rv] 28)).alloc (.cells #[.string ⟨#[]⟩, .int .i64 0] 68)) w.heap.size 28 #[.int .u64 S, .int .i64 room, .int .i64 votes, .slice (some ⟨g, 0, none⟩) n cb, .int .u64 LS, .int .i64 LM, rv]) := (Blk.new _ _ _).alloc _
  have KR : Hid (Blk ((w.alloc (.cells #[.int .u64 S, .int .i64 room, .int .i64 votes, .slice (some ⟨g, 0, none⟩) n cb, .int .u64 LS, .int .i64 LM, rv] 28)).alloc (.cells #[.string ⟨#[]⟩, .int .i64 0] 68)) (w.heap.size + 1) 68 #[.string ⟨#[]⟩, .int .i64 0]) := by
    have e := Blk.new (w.alloc (.cells #[.int .u64 S, .int .i64 room, .int .i64 votes, .slice (some ⟨g, 0, none⟩) n cb, .int .u64 LS, .int .i64 LM, rv] 28)) 68 #[.string ⟨#[]⟩, .int .i64 0]
    simp only [World.size_alloc] at e
    exact e
  have pb : (p : Int) < (n : Int) := by omega
  have p0 : (0 : Int) ≤ (p : Int) := by omega
  go_enter Try.func29, Try.ntmps29
  go_wp2_with fail
  generalize ((w.alloc (.cells #[.int .u64 S, .int .i64 room, .int .i64 votes, .slice (some ⟨g, 0, none⟩) n cb, .int .u64 LS, .int .i64 LM, rv] 28)).alloc (.cells #[.string ⟨#[]⟩, .int .i64 0] 68)) = X at BX KX KR ⊢
  refine letterQ ?_
  intro QQ hQQ
  have Z0 : Hid (Below X.heap.size X X.drew) := (Below.refl _ _).drew
  refine wp_region_noPanic ?_
  refine wp_region_held_drew (S := fun w2 => Below X.heap.size X w2) (by kernel_rfl) Z0.out (fun hHeld => ?_)
  clear hHeld
  generalize X.drew = q0 at Z0 ⊢
  refine wpAnyH_take (i := 0) (v := ?_) rfl (by kernel_rfl) (by kernel_rfl) (by kernel_rfl) (fun _ _ _ h => h) (Or.inl ⟨by rfl, ?_⟩) Z0.out ?_
  rotate_left
  · intro wq hSw; go_simp; first | done | with_reducible rfl
  simp only [List.getElem_toArray, List.getElem_cons_zero, Act.put, List.setIfInBounds_toArray, List.set_cons_zero, List.set_cons_succ]
  refine wpAnyH_take (i := 1) (v := ?_) rfl (by kernel_rfl) (by kernel_rfl) (by kernel_rfl) (fun _ _ _ h => h) (Or.inl ⟨by rfl, ?_⟩) Z0.out ?_
  rotate_left
  · intro wq hSw; have cl0 := (KX.out.since hSw).cell 3; go_simp; first | done | with_reducible rfl
  simp only [List.getElem_toArray, List.getElem_cons_zero, List.getElem_cons_succ, Act.put, List.setIfInBounds_toArray, List.set_cons_zero, List.set_cons_succ]
  refine wpAnyH_take (i := 2) (v := ?_) rfl (by kernel_rfl) (by kernel_rfl) (by kernel_rfl) (fun _ _ _ h => h) (Or.inl ⟨by rfl, ?_⟩) Z0.out ?_
  rotate_left
  · intro wq hSw; have cl0 := (KX.out.since hSw).cell 0; have cl1 := (KX.out.since hSw).cell 1; have cl2 := (KX.out.since hSw).cell 2; have cl3 := (KX.out.since hSw).cell 3; have cl4 := (KX.out.since hSw).cell 4; have cl5 := (KX.out.since hSw).cell 5; have cl6 := (KX.out.since hSw).cell 6; go_simp; first | done | with_reducible rfl
  simp only [List.getElem_toArray, List.getElem_cons_zero, List.getElem_cons_succ, Act.put, List.setIfInBounds_toArray, List.set_cons_zero, List.set_cons_succ]
  refine wpAnyH_take (i := 3) (v := ?_) rfl (by kernel_rfl) (by kernel_rfl) (by kernel_rfl) (fun _ _ _ h => h) (Or.inl ⟨by rfl, ?_⟩) Z0.out ?_
  rotate_left
  · intro wq hSw; go_simp; first | done | with_reducible rfl
  simp only [List.getElem_toArray, List.getElem_cons_zero, List.getElem_cons_succ, Act.put, List.setIfInBounds_toArray, List.set_cons_zero, List.set_cons_succ]
  refine wpAnyH_ready (rs := [4]) (by kernel_rfl) (by simp) ?_
  refine AllReadyH.cons rfl (fun K0 hK0 => ?_) ?_
  rotate_left
  · exact AllReadyH.nil
  refine step_func 53 #[.agg #[.int .u64 S, .int .i64 room, .int .i64 votes, .slice (some ⟨g, 0, none⟩) n cb, .int .u64 LS, .int .i64 LM, rv], .string s] (by rfl) rfl (by simp [Act.eval]) (fun _ _ => by kernel_rfl) ?_
  refine (PC.out _ (bel_trans BX.out Z0.out)).mono ?_
  rintro e uw ⟨rfl, b1⟩
  have Z1 : Hid (Below X.heap.size X uw) := bel_trans Z0.out b1
  clear b1
  refine ⟨_, rfl, ?_⟩
  refine hK0.out _ _ (by exact Z1.out) (fun hHeld => ?_)
  clear hK0 K0 hHeld
  simp only [Act.put, List.setIfInBounds_toArray]
  refine wpAnyH_take (i := 5) (v := ?_) rfl (by kernel_rfl) (by kernel_rfl) (by kernel_rfl) (fun _ _ _ h => h) (Or.inl ⟨by rfl, ?_⟩) Z1.out ?_
  rotate_left
  · intro wq hSw; go_simp; first | done | with_reducible rfl
  simp only [List.getElem_toArray, List.getElem_cons_zero, List.getElem_cons_succ, Act.put, List.setIfInBounds_toArray, List.set_cons_zero, List.set_cons_succ]
  refine wpAnyH_take (i := 6) (v := ?_) rfl (by kernel_rfl) (by kernel_rfl) (by kernel_rfl) (fun _ _ _ h => h) (Or.inl ⟨by rfl, ?_⟩) Z1.out ?_
  rotate_left
  · intro wq hSw; go_simp; first | done | with_reducible rfl
  simp only [List.getElem_toArray, List.getElem_cons_zero, List.getElem_cons_succ, Act.put, List.setIfInBounds_toArray, List.set_cons_zero, List.set_cons_succ]
  refine wpAnyH_done (by kernel_rfl) ?_ _
  refine NoPanic.normal ?_
  refine hQQ.out _ _ ?_
  clear hQQ
  have y0 : uw.cell? ⟨g, p * 2, none⟩ = some (.slice (some ⟨gp, 0, none⟩) m cap) := by rw [← HVP.out]; exact (RK.out.since (bel_trans BX.out Z1.out)).ents pn
  go_wp2_with fail
  refine (EA.out _ (bel_trans BX.out Z1.out)).mono ?_
  rintro e u2 ⟨rfl, b2⟩
  have B2 := hidE (bel_trans (bel_trans BX.out Z1.out) b2)
  have K2 := hidE ((KX.out.since Z1.out).since b2)
  have R2 := hidE ((KR.out.since Z1.out).since b2)
  clear b2 BX KX KR EA PC Z1 Z0 y0
  have I2 := hidE (IB.out.since B2.out)
  have y0 : u2.cell? ⟨g, p * 2, none⟩ = some (.slice (some ⟨gp, 0, none⟩) m cap) := by rw [← HVP.out]; exact I2.out.row.ents pn
  have c1 : u2.cell? ⟨gp, i * 3 + 1, none⟩ = some (.int .i64 v) := by
    have := (I2.out.cells i _ HI.out).2.1
    rw [Nat.zero_add] at this
    exact this
  have f1 := I2.out.ents.frozen (i * 3 + 1)
  have CM := hidE (emore_ok u2 gp (i * 3 + 1) v c1 f1 v0 v1)
  clear c1 f1
  go_wp2_with fail
  refine CM.out.mono ?_
  rintro e u3 ⟨rfl, hu3⟩
  have I3 : Hid (InB u3 Bd g n p gp cap V AG (es.set i ⟨k, v + 1, f⟩)) := by rw [hu3]; exact I2.out.setV HI.out (v + 1)
  have F3 : Hid (Far w u3 Bd g gp) := by rw [hu3]; exact (Far.mk' B2.out gl.out.2.2).set (a := ⟨gp, i * 3 + 1, none⟩) (Or.inr rfl) I2.out.bg I2.out.bp _
  have R3 : Hid (Blk u3 (w.heap.size + 1) 68 #[.string ⟨#[]⟩, .int .i64 0]) := by rw [hu3]; exact R2.out.other (a := ⟨gp, i * 3 + 1, none⟩) (by show w.heap.size + 1 ≠ gp; have := gl.out.2.1; omega) _
  clear hu3 CM I2 R2 K2 B2 y0
  have r0 : u3.cell? ⟨w.heap.size + 1, 0, none⟩ = some (.string ⟨#[]⟩) := R3.out.cell 0
  have r1 : u3.cell? ⟨w.heap.size + 1, 1, none⟩ = some (.int .i64 0) := R3.out.cell 1
  have z0 := R3.out.frozen 0
  have z1 := R3.out.frozen 1
  go_wp2_with fail
  refine bodyPost_ret (v := .tuple #[.agg #[.string ⟨#[]⟩, .int .i64 0], .int .i64 0]) ?_ rfl ?_
  rotate_left
  · exact ⟨rfl, InB.came (w' := eput2 u3 (w.heap.size + 1) (.string ⟨#[]⟩) (.int .i64 0)) (I3.out.of (eput2_heap _ _ _ _ _ (by have := gl.out.1; omega)) (eput2_heap _ _ _ _ _ (by have := gl.out.2.1; omega)) (Nat.le_of_eq (e2size _ _ _ _).symm)) (F3.out.put (by omega) (by have := gl.out.2.2; omega) _ _) (fun _ _ => rfl) _ rfl⟩
  have c3 := eput2_blk (t := 68) R3.out (.string ⟨#[]⟩) (.int .i64 0)
  have c30 := c3.cell 0
  have c31 := c3.cell 1
  change (results _ _).run _ (eput2 u3 (w.heap.size + 1) (.string ⟨#[]⟩) (.int .i64 0)) = .ok _ (eput2 u3 (w.heap.size + 1) (.string ⟨#[]⟩) (.int .i64 0))
  generalize eput2 u3 (w.heap.size + 1) (.string ⟨#[]⟩) (.int .i64 0) = W5 at c30 c31
  simp [results, Try.results29, go_sem, c30, c31]
set_option maxHeartbeats 3200000 in
theorem ecome_at_full (w : World) (Bd g n p cb : Nat) (V : Nat → Value) (AG : Nat → Int) (es : List Ent) (S room votes LS LM : Int) (rv : Value) (s : ByteArray) (pn : p < n) (nc : n ≤ cb) (el : es.length ≤ 1000) (PC : Hid (∀ u, Below w.heap.size w u → Calls Try.prog 53 #[.agg #[.int .u64 S, .int .i64 room, .int .i64 votes, .slice (some ⟨g, 0, none⟩) n cb, .int .u64 LS, .int .i64 LM, rv], .string s] u fun e w' => e = .returned (.int .i64 (p : Int)) ∧ Below u.heap.size u w')) (gp cap : Nat) (h : InB w Bd g n p gp cap V AG es) (i : Nat) (k : ByteArray) (f : Bool) (ha : atE es s = some i) (hi : es[i]? = some ⟨k, 1099511627776, f⟩) :
    Calls Try.prog 29 #[.agg #[.int .u64 S, .int .i64 room, .int .i64 votes, .slice (some ⟨g, 0, none⟩) n cb, .int .u64 LS, .int .i64 LM, rv], .string s] w fun e w' => e = .returned (.tuple #[.agg #[.string ⟨#[]⟩, .int .i64 0], .int .i64 5]) ∧ Below w.heap.size w w' := by
  have IB := hidE h
  have gl := hidE (And.intro h.row.lt (And.intro h.ents.lt h.low))
  have EL := hidE el
  have EA := hidE fun u (b : Below w.heap.size w u) => efind_any u (V p) es s (h.here b) (by omega)
  rw [h.val] at EA
  have HVP := hidE h.val
  have RK := hidE h.row
  obtain ⟨m, hm⟩ : ∃ m, m = es.length := ⟨_, rfl⟩
  have HM := hidE hm
  rw [← hm] at EA HVP
  clear h hm el
  rw [atI_some ha] at EA
  have il : i < m := by rw [HM.out]; exact (List.getElem?_eq_some_iff.1 hi).1
  have bi : (i : Int) < (m : Int) := by omega
  have bi0 : (i : Int) ≥ 0 := by omega
  have bi1 : (0 : Int) ≤ (i : Int) := by omega
  have HI := hidE hi
  clear ha hi
  have BX : Hid (Below w.heap.size w ((w.alloc (.cells #[.int .u64 S, .int .i64 room, .int .i64 votes, .slice (some ⟨g, 0, none⟩) n cb, .int .u64 LS, .int .i64 LM, rv] 28)).alloc (.cells #[.string ⟨#[]⟩, .int .i64 0] 68))) := (bel_alloc _ _).alloc (by simp) _
  have KX : Hid (Blk ((w.alloc (.cells #[.int .u64 S, .int .i64 room, .int .i64 votes, .slice (some ⟨g, 0, none⟩) n cb, .int .u64 LS, .int .i64 LM, rv] 28)).alloc (.cells #[.string ⟨#[]⟩, .int .i64 0] 68)) w.heap.size 28 #[.int .u64 S, .int .i64 room, .int .i64 votes, .slice (some ⟨g, 0, none⟩) n cb, .int .u64 LS, .int .i64 LM, rv]) := (Blk.new _ _ _).alloc _
  have KR : Hid (Blk ((w.alloc (.cells #[.int .u64 S, .int .i64 room, .int .i64 votes, .slice (some ⟨g, 0, none⟩) n cb, .int .u64 LS, .int .i64 LM, rv] 28)).alloc (.cells #[.string ⟨#[]⟩, .int .i64 0] 68)) (w.heap.size + 1) 68 #[.string ⟨#[]⟩, .int .i64 0]) := by
    have e := Blk.new (w.alloc (.cells #[.int .u64 S, .int .i64 room, .int .i64 votes, .slice (some ⟨g, 0, none⟩) n cb, .int .u64 LS, .int .i64 LM, rv] 28)) 68 #[.string ⟨#[]⟩, .int .i64 0]
    simp only [World.size_alloc] at e
    exact e
  have pb : (p : Int) < (n : Int) := by omega
  have p0 : (0 : Int) ≤ (p : Int) := by omega
  go_enter Try.func29, Try.ntmps29
  go_wp2_with fail
  generalize ((w.alloc (.cells #[.int .u64 S, .int .i64 room, .int .i64 votes, .slice (some ⟨g, 0, none⟩) n cb, .int .u64 LS, .int .i64 LM, rv] 28)).alloc (.cells #[.string ⟨#[]⟩, .int .i64 0] 68)) = X at BX KX KR ⊢
  refine letterQ ?_
  intro QQ hQQ
  have Z0 : Hid (Below X.heap.size X X.drew) := (Below.refl _ _).drew
  refine wp_region_noPanic ?_
  refine wp_region_held_drew (S := fun w2 => Below X.heap.size X w2) (by kernel_rfl) Z0.out (fun hHeld => ?_)
  clear hHeld
  generalize X.drew = q0 at Z0 ⊢
  refine wpAnyH_take (i := 0) (v := ?_) rfl (by kernel_rfl) (by kernel_rfl) (by kernel_rfl) (fun _ _ _ h => h) (Or.inl ⟨by rfl, ?_⟩) Z0.out ?_
  rotate_left
  · intro wq hSw; go_simp; first | done | with_reducible rfl
  simp only [List.getElem_toArray, List.getElem_cons_zero, Act.put, List.setIfInBounds_toArray, List.set_cons_zero, List.set_cons_succ]
  refine wpAnyH_take (i := 1) (v := ?_) rfl (by kernel_rfl) (by kernel_rfl) (by kernel_rfl) (fun _ _ _ h => h) (Or.inl ⟨by rfl, ?_⟩) Z0.out ?_
  rotate_left
  · intro wq hSw; have cl0 := (KX.out.since hSw).cell 3; go_simp; first | done | with_reducible rfl
  simp only [List.getElem_toArray, List.getElem_cons_zero, List.getElem_cons_succ, Act.put, List.setIfInBounds_toArray, List.set_cons_zero, List.set_cons_succ]
  refine wpAnyH_take (i := 2) (v := ?_) rfl (by kernel_rfl) (by kernel_rfl) (by kernel_rfl) (fun _ _ _ h => h) (Or.inl ⟨by rfl, ?_⟩) Z0.out ?_
  rotate_left
  · intro wq hSw; have cl0 := (KX.out.since hSw).cell 0; have cl1 := (KX.out.since hSw).cell 1; have cl2 := (KX.out.since hSw).cell 2; have cl3 := (KX.out.since hSw).cell 3; have cl4 := (KX.out.since hSw).cell 4; have cl5 := (KX.out.since hSw).cell 5; have cl6 := (KX.out.since hSw).cell 6; go_simp; first | done | with_reducible rfl
  simp only [List.getElem_toArray, List.getElem_cons_zero, List.getElem_cons_succ, Act.put, List.setIfInBounds_toArray, List.set_cons_zero, List.set_cons_succ]
  refine wpAnyH_take (i := 3) (v := ?_) rfl (by kernel_rfl) (by kernel_rfl) (by kernel_rfl) (fun _ _ _ h => h) (Or.inl ⟨by rfl, ?_⟩) Z0.out ?_
  rotate_left
  · intro wq hSw; go_simp; first | done | with_reducible rfl
  simp only [List.getElem_toArray, List.getElem_cons_zero, List.getElem_cons_succ, Act.put, List.setIfInBounds_toArray, List.set_cons_zero, List.set_cons_succ]
  refine wpAnyH_ready (rs := [4]) (by kernel_rfl) (by simp) ?_
  refine AllReadyH.cons rfl (fun K0 hK0 => ?_) ?_
  rotate_left
  · exact AllReadyH.nil
  refine step_func 53 #[.agg #[.int .u64 S, .int .i64 room, .int .i64 votes, .slice (some ⟨g, 0, none⟩) n cb, .int .u64 LS, .int .i64 LM, rv], .string s] (by rfl) rfl (by simp [Act.eval]) (fun _ _ => by kernel_rfl) ?_
  refine (PC.out _ (bel_trans BX.out Z0.out)).mono ?_
  rintro e uw ⟨rfl, b1⟩
  have Z1 : Hid (Below X.heap.size X uw) := bel_trans Z0.out b1
  clear b1
  refine ⟨_, rfl, ?_⟩
  refine hK0.out _ _ (by exact Z1.out) (fun hHeld => ?_)
  clear hK0 K0 hHeld
  simp only [Act.put, List.setIfInBounds_toArray]
  refine wpAnyH_take (i := 5) (v := ?_) rfl (by kernel_rfl) (by kernel_rfl) (by kernel_rfl) (fun _ _ _ h => h) (Or.inl ⟨by rfl, ?_⟩) Z1.out ?_
  rotate_left
  · intro wq hSw; go_simp; first | done | with_reducible rfl
  simp only [List.getElem_toArray, List.getElem_cons_zero, List.getElem_cons_succ, Act.put, List.setIfInBounds_toArray, List.set_cons_zero, List.set_cons_succ]
  refine wpAnyH_take (i := 6) (v := ?_) rfl (by kernel_rfl) (by kernel_rfl) (by kernel_rfl) (fun _ _ _ h => h) (Or.inl ⟨by rfl, ?_⟩) Z1.out ?_
  rotate_left
  · intro wq hSw; go_simp; first | done | with_reducible rfl
  simp only [List.getElem_toArray, List.getElem_cons_zero, List.getElem_cons_succ, Act.put, List.setIfInBounds_toArray, List.set_cons_zero, List.set_cons_succ]
  refine wpAnyH_done (by kernel_rfl) ?_ _
  refine NoPanic.normal ?_
  refine hQQ.out _ _ ?_
  clear hQQ
  have y0 : uw.cell? ⟨g, p * 2, none⟩ = some (.slice (some ⟨gp, 0, none⟩) m cap) := by rw [← HVP.out]; exact (RK.out.since (bel_trans BX.out Z1.out)).ents pn
  go_wp2_with fail
  refine (EA.out _ (bel_trans BX.out Z1.out)).mono ?_
  rintro e u2 ⟨rfl, b2⟩
  have B2 := hidE (bel_trans (bel_trans BX.out Z1.out) b2)
  have K2 := hidE ((KX.out.since Z1.out).since b2)
  have R2 := hidE ((KR.out.since Z1.out).since b2)
  clear b2 BX KX KR EA PC Z1 Z0 y0
  have I2 := hidE (IB.out.since B2.out)
  have y0 : u2.cell? ⟨g, p * 2, none⟩ = some (.slice (some ⟨gp, 0, none⟩) m cap) := by rw [← HVP.out]; exact I2.out.row.ents pn
  have c1 : u2.cell? ⟨gp, i * 3 + 1, none⟩ = some (.int .i64 1099511627776) := by
    have := (I2.out.cells i _ HI.out).2.1
    rw [Nat.zero_add] at this
    exact this
  have CM := hidE (emore_full u2 gp (i * 3 + 1) c1)
  clear c1
  go_wp2_with fail
  refine CM.out.mono ?_
  rintro e u3 ⟨rfl, hu3⟩
  have R3 : Hid (Blk u3 (w.heap.size + 1) 68 #[.string ⟨#[]⟩, .int .i64 0]) := by rw [hu3]; exact R2.out
  have B3 : Hid (Below w.heap.size w u3) := by rw [hu3]; exact B2.out
  clear hu3 CM I2 R2 K2 B2 y0
  have r0 : u3.cell? ⟨w.heap.size + 1, 0, none⟩ = some (.string ⟨#[]⟩) := R3.out.cell 0
  have r1 : u3.cell? ⟨w.heap.size + 1, 1, none⟩ = some (.int .i64 0) := R3.out.cell 1
  have z0 := R3.out.frozen 0
  have z1 := R3.out.frozen 1
  go_wp2_with fail
  refine bodyPost_ret (v := .tuple #[.agg #[.string ⟨#[]⟩, .int .i64 0], .int .i64 5]) ?_ rfl ?_
  rotate_left
  · exact ⟨rfl, eput2_below B3.out (by omega) _ _⟩
  have c3 := eput2_blk (t := 68) R3.out (.string ⟨#[]⟩) (.int .i64 0)
  have c30 := c3.cell 0
  have c31 := c3.cell 1
  change (results _ _).run _ (eput2 u3 (w.heap.size + 1) (.string ⟨#[]⟩) (.int .i64 0)) = .ok _ (eput2 u3 (w.heap.size + 1) (.string ⟨#[]⟩) (.int .i64 0))
  generalize eput2 u3 (w.heap.size + 1) (.string ⟨#[]⟩) (.int .i64 0) = W5 at c30 c31
  simp [results, Try.results29, go_sem, c30, c31]
set_option maxHeartbeats 3200000 in
theorem ecome_full (w : World) (Bd g n p cb : Nat) (V : Nat → Value) (AG : Nat → Int) (es : List Ent) (S room votes LS LM : Int) (rv : Value) (s : ByteArray) (pn : p < n) (nc : n ≤ cb) (el : es.length ≤ 1000) (PC : Hid (∀ u, Below w.heap.size w u → Calls Try.prog 53 #[.agg #[.int .u64 S, .int .i64 room, .int .i64 votes, .slice (some ⟨g, 0, none⟩) n cb, .int .u64 LS, .int .i64 LM, rv], .string s] u fun e w' => e = .returned (.int .i64 (p : Int)) ∧ Below u.heap.size u w')) (gp cap : Nat) (h : InB w Bd g n p gp cap V AG es) (ha : atE es s = none) (hr : ¬ (es.length : Int) < room) (hag : AG p = 1099511627776) :
    Calls Try.prog 29 #[.agg #[.int .u64 S, .int .i64 room, .int .i64 votes, .slice (some ⟨g, 0, none⟩) n cb, .int .u64 LS, .int .i64 LM, rv], .string s] w fun e w' => e = .returned (.tuple #[.agg #[.string ⟨#[]⟩, .int .i64 0], .int .i64 5]) ∧ Below w.heap.size w w' := by
  have HAG := hidE hag
  clear hag
  have IB := hidE h
  have gl := hidE (And.intro h.row.lt (And.intro h.ents.lt h.low))
  have EL := hidE el
  have EA := hidE fun u (b : Below w.heap.size w u) => efind_any u (V p) es s (h.here b) (by omega)
  rw [h.val] at EA
  have HVP := hidE h.val
  have RK := hidE h.row
  obtain ⟨m, hm⟩ : ∃ m, m = es.length := ⟨_, rfl⟩
  have HM := hidE hm
  rw [← hm] at EA HVP
  clear h hm el
  rw [atI_none ha] at EA
  clear ha
  have BX : Hid (Below w.heap.size w ((w.alloc (.cells #[.int .u64 S, .int .i64 room, .int .i64 votes, .slice (some ⟨g, 0, none⟩) n cb, .int .u64 LS, .int .i64 LM, rv] 28)).alloc (.cells #[.string ⟨#[]⟩, .int .i64 0] 68))) := (bel_alloc _ _).alloc (by simp) _
  have KX : Hid (Blk ((w.alloc (.cells #[.int .u64 S, .int .i64 room, .int .i64 votes, .slice (some ⟨g, 0, none⟩) n cb, .int .u64 LS, .int .i64 LM, rv] 28)).alloc (.cells #[.string ⟨#[]⟩, .int .i64 0] 68)) w.heap.size 28 #[.int .u64 S, .int .i64 room, .int .i64 votes, .slice (some ⟨g, 0, none⟩) n cb, .int .u64 LS, .int .i64 LM, rv]) := (Blk.new _ _ _).alloc _
  have KR : Hid (Blk ((w.alloc (.cells #[.int .u64 S, .int .i64 room, .int .i64 votes, .slice (some ⟨g, 0, none⟩) n cb, .int .u64 LS, .int .i64 LM, rv] 28)).alloc (.cells #[.string ⟨#[]⟩, .int .i64 0] 68)) (w.heap.size + 1) 68 #[.string ⟨#[]⟩, .int .i64 0]) := by
    have e := Blk.new (w.alloc (.cells #[.int .u64 S, .int .i64 room, .int .i64 votes, .slice (some ⟨g, 0, none⟩) n cb, .int .u64 LS, .int .i64 LM, rv] 28)) 68 #[.string ⟨#[]⟩, .int .i64 0]
    simp only [World.size_alloc] at e
    exact e
  have pb : (p : Int) < (n : Int) := by omega
  have p0 : (0 : Int) ≤ (p : Int) := by omega
  go_enter Try.func29, Try.ntmps29
  go_wp2_with fail
  generalize ((w.alloc (.cells #[.int .u64 S, .int .i64 room, .int .i64 votes, .slice (some ⟨g, 0, none⟩) n cb, .int .u64 LS, .int .i64 LM, rv] 28)).alloc (.cells #[.string ⟨#[]⟩, .int .i64 0] 68)) = X at BX KX KR ⊢
  refine letterQ ?_
  intro QQ hQQ
  have Z0 : Hid (Below X.heap.size X X.drew) := (Below.refl _ _).drew
  refine wp_region_noPanic ?_
  refine wp_region_held_drew (S := fun w2 => Below X.heap.size X w2) (by kernel_rfl) Z0.out (fun hHeld => ?_)
  clear hHeld
  generalize X.drew = q0 at Z0 ⊢
  refine wpAnyH_take (i := 0) (v := ?_) rfl (by kernel_rfl) (by kernel_rfl) (by kernel_rfl) (fun _ _ _ h => h) (Or.inl ⟨by rfl, ?_⟩) Z0.out ?_
  rotate_left
  · intro wq hSw; go_simp; first | done | with_reducible rfl
  simp only [List.getElem_toArray, List.getElem_cons_zero, Act.put, List.setIfInBounds_toArray, List.set_cons_zero, List.set_cons_succ]
  refine wpAnyH_take (i := 1) (v := ?_) rfl (by kernel_rfl) (by kernel_rfl) (by kernel_rfl) (fun _ _ _ h => h) (Or.inl ⟨by rfl, ?_⟩) Z0.out ?_
  rotate_left
  · intro wq hSw; have cl0 := (KX.out.since hSw).cell 3; go_simp; first | done | with_reducible rfl
  simp only [List.getElem_toArray, List.getElem_cons_zero, List.getElem_cons_succ, Act.put, List.setIfInBounds_toArray, List.set_cons_zero, List.set_cons_succ]
  refine wpAnyH_take (i := 2) (v := ?_) rfl (by kernel_rfl) (by kernel_rfl) (by kernel_rfl) (fun _ _ _ h => h) (Or.inl ⟨by rfl, ?_⟩) Z0.out ?_
  rotate_left
  · intro wq hSw; have cl0 := (KX.out.since hSw).cell 0; have cl1 := (KX.out.since hSw).cell 1; have cl2 := (KX.out.since hSw).cell 2; have cl3 := (KX.out.since hSw).cell 3; have cl4 := (KX.out.since hSw).cell 4; have cl5 := (KX.out.since hSw).cell 5; have cl6 := (KX.out.since hSw).cell 6; go_simp; first | done | with_reducible rfl
  simp only [List.getElem_toArray, List.getElem_cons_zero, List.getElem_cons_succ, Act.put, List.setIfInBounds_toArray, List.set_cons_zero, List.set_cons_succ]
  refine wpAnyH_take (i := 3) (v := ?_) rfl (by kernel_rfl) (by kernel_rfl) (by kernel_rfl) (fun _ _ _ h => h) (Or.inl ⟨by rfl, ?_⟩) Z0.out ?_
  rotate_left
  · intro wq hSw; go_simp; first | done | with_reducible rfl
  simp only [List.getElem_toArray, List.getElem_cons_zero, List.getElem_cons_succ, Act.put, List.setIfInBounds_toArray, List.set_cons_zero, List.set_cons_succ]
  refine wpAnyH_ready (rs := [4]) (by kernel_rfl) (by simp) ?_
  refine AllReadyH.cons rfl (fun K0 hK0 => ?_) ?_
  rotate_left
  · exact AllReadyH.nil
  refine step_func 53 #[.agg #[.int .u64 S, .int .i64 room, .int .i64 votes, .slice (some ⟨g, 0, none⟩) n cb, .int .u64 LS, .int .i64 LM, rv], .string s] (by rfl) rfl (by simp [Act.eval]) (fun _ _ => by kernel_rfl) ?_
  refine (PC.out _ (bel_trans BX.out Z0.out)).mono ?_
  rintro e uw ⟨rfl, b1⟩
  have Z1 : Hid (Below X.heap.size X uw) := bel_trans Z0.out b1
  clear b1
  refine ⟨_, rfl, ?_⟩
  refine hK0.out _ _ (by exact Z1.out) (fun hHeld => ?_)
  clear hK0 K0 hHeld
  simp only [Act.put, List.setIfInBounds_toArray]
  refine wpAnyH_take (i := 5) (v := ?_) rfl (by kernel_rfl) (by kernel_rfl) (by kernel_rfl) (fun _ _ _ h => h) (Or.inl ⟨by rfl, ?_⟩) Z1.out ?_
  rotate_left
  · intro wq hSw; go_simp; first | done | with_reducible rfl
  simp only [List.getElem_toArray, List.getElem_cons_zero, List.getElem_cons_succ, Act.put, List.setIfInBounds_toArray, List.set_cons_zero, List.set_cons_succ]
  refine wpAnyH_take (i := 6) (v := ?_) rfl (by kernel_rfl) (by kernel_rfl) (by kernel_rfl) (fun _ _ _ h => h) (Or.inl ⟨by rfl, ?_⟩) Z1.out ?_
  rotate_left
  · intro wq hSw; go_simp; first | done | with_reducible rfl
  simp only [List.getElem_toArray, List.getElem_cons_zero, List.getElem_cons_succ, Act.put, List.setIfInBounds_toArray, List.set_cons_zero, List.set_cons_succ]
  refine wpAnyH_done (by kernel_rfl) ?_ _
  refine NoPanic.normal ?_
  refine hQQ.out _ _ ?_
  clear hQQ
  have y0 : uw.cell? ⟨g, p * 2, none⟩ = some (.slice (some ⟨gp, 0, none⟩) m cap) := by rw [← HVP.out]; exact (RK.out.since (bel_trans BX.out Z1.out)).ents pn
  go_wp2_with fail
  refine (EA.out _ (bel_trans BX.out Z1.out)).mono ?_
  rintro e u2 ⟨rfl, b2⟩
  have B2 := hidE (bel_trans (bel_trans BX.out Z1.out) b2)
  have K2 := hidE ((KX.out.since Z1.out).since b2)
  have R2 := hidE ((KR.out.since Z1.out).since b2)
  clear b2 BX KX KR EA PC Z1 Z0 y0
  have I2 := hidE (IB.out.since B2.out)
  have y0 : u2.cell? ⟨g, p * 2, none⟩ = some (.slice (some ⟨gp, 0, none⟩) m cap) := by rw [← HVP.out]; exact I2.out.row.ents pn
  have x1 : u2.cell? ⟨w.heap.size, 1, none⟩ = some (.int .i64 room) := K2.out.cell 1
  have nr : ¬ (m : Int) < room := by have := HM.out; omega
  go_wp2_with fail
  go_quiet (fail)
  have I3 : Hid (InB (u2.drewN nq) Bd g n p gp cap V AG es) := I2.out.of rfl rfl (Nat.le_refl _)
  have K3 : Hid (Blk (u2.drewN nq) w.heap.size 28 #[.int .u64 S, .int .i64 room, .int .i64 votes, .slice (some ⟨g, 0, none⟩) n cb, .int .u64 LS, .int .i64 LM, rv]) := K2.out
  have R3 : Hid (Blk (u2.drewN nq) (w.heap.size + 1) 68 #[.string ⟨#[]⟩, .int .i64 0]) := R2.out
  have B3 : Hid (Below w.heap.size w (u2.drewN nq)) := below_drewN B2.out nq
  clear I2 K2 R2 B2 y0 x1
  generalize u2.drewN nq = u3 at I3 K3 R3 B3 ⊢
  have a1 : u3.cell? ⟨g, p * 2 + 1, none⟩ = some (.int .i64 (AG p)) := I3.out.row.ag pn
  have f1 := I3.out.row.frozen (p * 2 + 1)
  rw [HAG.out] at a1
  have CM := hidE (emore_full u3 g (p * 2 + 1) a1)
  clear a1 f1
  go_wp2_with fail
  refine CM.out.mono ?_
  rintro e u4 ⟨rfl, hu4⟩
  have R4 : Hid (Blk u4 (w.heap.size + 1) 68 #[.string ⟨#[]⟩, .int .i64 0]) := by rw [hu4]; exact R3.out
  have B4 : Hid (Below w.heap.size w u4) := by rw [hu4]; exact B3.out
  clear hu4 CM I3 R3 K3 B3
  have r0 : u4.cell? ⟨w.heap.size + 1, 0, none⟩ = some (.string ⟨#[]⟩) := R4.out.cell 0
  have r1 : u4.cell? ⟨w.heap.size + 1, 1, none⟩ = some (.int .i64 0) := R4.out.cell 1
  have z0 := R4.out.frozen 0
  have z1 := R4.out.frozen 1
  go_wp2_with fail
  refine bodyPost_ret (v := .tuple #[.agg #[.string ⟨#[]⟩, .int .i64 0], .int .i64 5]) ?_ rfl ?_
  rotate_left
  · exact ⟨rfl, eput2_below B4.out (by omega) _ _⟩
  have c3 := eput2_blk (t := 68) R4.out (.string ⟨#[]⟩) (.int .i64 0)
  have c30 := c3.cell 0
  have c31 := c3.cell 1
  change (results _ _).run _ (eput2 u4 (w.heap.size + 1) (.string ⟨#[]⟩) (.int .i64 0)) = .ok _ (eput2 u4 (w.heap.size + 1) (.string ⟨#[]⟩) (.int .i64 0))
  generalize eput2 u4 (w.heap.size + 1) (.string ⟨#[]⟩) (.int .i64 0) = W5 at c30 c31
  simp [results, Try.results29, go_sem, c30, c31]
set_option maxHeartbeats 3200000 in
theorem ecome_out (w : World) (Bd g n p cb : Nat) (V : Nat → Value) (AG : Nat → Int) (es : List Ent) (S room votes LS LM : Int) (rv : Value) (s : ByteArray) (pn : p < n) (nc : n ≤ cb) (el : es.length ≤ 1000) (PC : Hid (∀ u, Below w.heap.size w u → Calls Try.prog 53 #[.agg #[.int .u64 S, .int .i64 room, .int .i64 votes, .slice (some ⟨g, 0, none⟩) n cb, .int .u64 LS, .int .i64 LM, rv], .string s] u fun e w' => e = .returned (.int .i64 (p : Int)) ∧ Below u.heap.size u w')) (gp cap : Nat) (h : InB w Bd g n p gp cap V AG es) (ha : atE es s = none) (hr : ¬ (es.length : Int) < room) (a0 : 0 ≤ AG p) (a1 : AG p < 1099511627776) (t : ByteArray) (d : Int) (d0 : Bool) (hlow : es[lowAt es]? = some ⟨t, d, d0⟩) (v1 : 1 ≤ votes) (v2 : votes ≤ 64) (dd1 : 1 ≤ d) (dd2 : d ≤ 1099511627776) (cond : AG p + 1 < votes * d) :
    Calls Try.prog 29 #[.agg #[.int .u64 S, .int .i64 room, .int .i64 votes, .slice (some ⟨g, 0, none⟩) n cb, .int .u64 LS, .int .i64 LM, rv], .string s] w fun e w' => e = .returned (.tuple #[.agg #[.string s, .int .i64 1], .int .i64 0]) ∧ CameP w w' Bd g n p V AG ⟨es, AG p + 1⟩ := by
  have HLOW := hidE hlow
  have HC := hidE cond
  obtain ⟨ag, hag⟩ : ∃ ag, ag = AG p := ⟨_, rfl⟩
  have HAG := hidE hag
  rw [← hag] at a0 a1
  have ag0 := a0
  have ag1 := a1
  clear hlow cond hag a0 a1
  have IB := hidE h
  have gl := hidE (And.intro h.row.lt (And.intro h.ents.lt h.low))
  have EL := hidE el
  have EA := hidE fun u (b : Below w.heap.size w u) => efind_any u (V p) es s (h.here b) (by omega)
  rw [h.val] at EA
  have HVP := hidE h.val
  have RK := hidE h.row
  obtain ⟨m, hm⟩ : ∃ m, m = es.length := ⟨_, rfl⟩
  have HM := hidE hm
  rw [← hm] at EA HVP
  clear h hm el
  rw [atI_none ha] at EA
  clear ha
  have BX : Hid (Below w.heap.size w ((w.alloc (.cells #[.int .u64 S, .int .i64 room, .int .i64 votes, .slice (some ⟨g, 0, none⟩) n cb, .int .u64 LS, .int .i64 LM, rv] 28)).alloc (.cells #[.string ⟨#[]⟩, .int .i64 0] 68))) := (bel_alloc _ _).alloc (by simp) _
  have KX : Hid (Blk ((w.alloc (.cells #[.int .u64 S, .int .i64 room, .int .i64 votes, .slice (some ⟨g, 0, none⟩) n cb, .int .u64 LS, .int .i64 LM, rv] 28)).alloc (.cells #[.string ⟨#[]⟩, .int .i64 0] 68)) w.heap.size 28 #[.int .u64 S, .int .i64 room, .int .i64 votes, .slice (some ⟨g, 0, none⟩) n cb, .int .u64 LS, .int .i64 LM, rv]) := (Blk.new _ _ _).alloc _
  have KR : Hid (Blk ((w.alloc (.cells #[.int .u64 S, .int .i64 room, .int .i64 votes, .slice (some ⟨g, 0, none⟩) n cb, .int .u64 LS, .int .i64 LM, rv] 28)).alloc (.cells #[.string ⟨#[]⟩, .int .i64 0] 68)) (w.heap.size + 1) 68 #[.string ⟨#[]⟩, .int .i64 0]) := by
    have e := Blk.new (w.alloc (.cells #[.int .u64 S, .int .i64 room, .int .i64 votes, .slice (some ⟨g, 0, none⟩) n cb, .int .u64 LS, .int .i64 LM, rv] 28)) 68 #[.string ⟨#[]⟩, .int .i64 0]
    simp only [World.size_alloc] at e
    exact e
  have pb : (p : Int) < (n : Int) := by omega
  have p0 : (0 : Int) ≤ (p : Int) := by omega
  go_enter Try.func29, Try.ntmps29
  go_wp2_with fail
  generalize ((w.alloc (.cells #[.int .u64 S, .int .i64 room, .int .i64 votes, .slice (some ⟨g, 0, none⟩) n cb, .int .u64 LS, .int .i64 LM, rv] 28)).alloc (.cells #[.string ⟨#[]⟩, .int .i64 0] 68)) = X at BX KX KR ⊢
  refine letterQ ?_
  intro QQ hQQ
  have Z0 : Hid (Below X.heap.size X X.drew) := (Below.refl _ _).drew
  refine wp_region_noPanic ?_
  refine wp_region_held_drew (S := fun w2 => Below X.heap.size X w2) (by kernel_rfl) Z0.out (fun hHeld => ?_)
  clear hHeld
  generalize X.drew = q0 at Z0 ⊢
  refine wpAnyH_take (i := 0) (v := ?_) rfl (by kernel_rfl) (by kernel_rfl) (by kernel_rfl) (fun _ _ _ h => h) (Or.inl ⟨by rfl, ?_⟩) Z0.out ?_
  rotate_left
  · intro wq hSw; go_simp; first | done | with_reducible rfl
  simp only [List.getElem_toArray, List.getElem_cons_zero, Act.put, List.setIfInBounds_toArray, List.set_cons_zero, List.set_cons_succ]
  refine wpAnyH_take (i := 1) (v := ?_) rfl (by kernel_rfl) (by kernel_rfl) (by kernel_rfl) (fun _ _ _ h => h) (Or.inl ⟨by rfl, ?_⟩) Z0.out ?_
  rotate_left
  · intro wq hSw; have cl0 := (KX.out.since hSw).cell 3; go_simp; first | done | with_reducible rfl
  simp only [List.getElem_toArray, List.getElem_cons_zero, List.getElem_cons_succ, Act.put, List.setIfInBounds_toArray, List.set_cons_zero, List.set_cons_succ]
  refine wpAnyH_take (i := 2) (v := ?_) rfl (by kernel_rfl) (by kernel_rfl) (by kernel_rfl) (fun _ _ _ h => h) (Or.inl ⟨by rfl, ?_⟩) Z0.out ?_
  rotate_left
  · intro wq hSw; have cl0 := (KX.out.since hSw).cell 0; have cl1 := (KX.out.since hSw).cell 1; have cl2 := (KX.out.since hSw).cell 2; have cl3 := (KX.out.since hSw).cell 3; have cl4 := (KX.out.since hSw).cell 4; have cl5 := (KX.out.since hSw).cell 5; have cl6 := (KX.out.since hSw).cell 6; go_simp; first | done | with_reducible rfl
  simp only [List.getElem_toArray, List.getElem_cons_zero, List.getElem_cons_succ, Act.put, List.setIfInBounds_toArray, List.set_cons_zero, List.set_cons_succ]
  refine wpAnyH_take (i := 3) (v := ?_) rfl (by kernel_rfl) (by kernel_rfl) (by kernel_rfl) (fun _ _ _ h => h) (Or.inl ⟨by rfl, ?_⟩) Z0.out ?_
  rotate_left
  · intro wq hSw; go_simp; first | done | with_reducible rfl
  simp only [List.getElem_toArray, List.getElem_cons_zero, List.getElem_cons_succ, Act.put, List.setIfInBounds_toArray, List.set_cons_zero, List.set_cons_succ]
  refine wpAnyH_ready (rs := [4]) (by kernel_rfl) (by simp) ?_
  refine AllReadyH.cons rfl (fun K0 hK0 => ?_) ?_
  rotate_left
  · exact AllReadyH.nil
  refine step_func 53 #[.agg #[.int .u64 S, .int .i64 room, .int .i64 votes, .slice (some ⟨g, 0, none⟩) n cb, .int .u64 LS, .int .i64 LM, rv], .string s] (by rfl) rfl (by simp [Act.eval]) (fun _ _ => by kernel_rfl) ?_
  refine (PC.out _ (bel_trans BX.out Z0.out)).mono ?_
  rintro e uw ⟨rfl, b1⟩
  have Z1 : Hid (Below X.heap.size X uw) := bel_trans Z0.out b1
  clear b1
  refine ⟨_, rfl, ?_⟩
  refine hK0.out _ _ (by exact Z1.out) (fun hHeld => ?_)
  clear hK0 K0 hHeld
  simp only [Act.put, List.setIfInBounds_toArray]
  refine wpAnyH_take (i := 5) (v := ?_) rfl (by kernel_rfl) (by kernel_rfl) (by kernel_rfl) (fun _ _ _ h => h) (Or.inl ⟨by rfl, ?_⟩) Z1.out ?_
  rotate_left
  · intro wq hSw; go_simp; first | done | with_reducible rfl
  simp only [List.getElem_toArray, List.getElem_cons_zero, List.getElem_cons_succ, Act.put, List.setIfInBounds_toArray, List.set_cons_zero, List.set_cons_succ]
  refine wpAnyH_take (i := 6) (v := ?_) rfl (by kernel_rfl) (by kernel_rfl) (by kernel_rfl) (fun _ _ _ h => h) (Or.inl ⟨by rfl, ?_⟩) Z1.out ?_
  rotate_left
  · intro wq hSw; go_simp; first | done | with_reducible rfl
  simp only [List.getElem_toArray, List.getElem_cons_zero, List.getElem_cons_succ, Act.put, List.setIfInBounds_toArray, List.set_cons_zero, List.set_cons_succ]
  refine wpAnyH_done (by kernel_rfl) ?_ _
  refine NoPanic.normal ?_
  refine hQQ.out _ _ ?_
  clear hQQ
  have y0 : uw.cell? ⟨g, p * 2, none⟩ = some (.slice (some ⟨gp, 0, none⟩) m cap) := by rw [← HVP.out]; exact (RK.out.since (bel_trans BX.out Z1.out)).ents pn
  go_wp2_with fail
  refine (EA.out _ (bel_trans BX.out Z1.out)).mono ?_
  rintro e u2 ⟨rfl, b2⟩
  have B2 := hidE (bel_trans (bel_trans BX.out Z1.out) b2)
  have K2 := hidE ((KX.out.since Z1.out).since b2)
  have R2 := hidE ((KR.out.since Z1.out).since b2)
  clear b2 BX KX KR EA PC Z1 Z0 y0
  have I2 := hidE (IB.out.since B2.out)
  have y0 : u2.cell? ⟨g, p * 2, none⟩ = some (.slice (some ⟨gp, 0, none⟩) m cap) := by rw [← HVP.out]; exact I2.out.row.ents pn
  have x1 : u2.cell? ⟨w.heap.size, 1, none⟩ = some (.int .i64 room) := K2.out.cell 1
  have nr : ¬ (m : Int) < room := by have := HM.out; omega
  go_wp2_with fail
  go_quiet (fail)
  have I3 : Hid (InB (u2.drewN nq) Bd g n p gp cap V AG es) := I2.out.of rfl rfl (Nat.le_refl _)
  have K3 : Hid (Blk (u2.drewN nq) w.heap.size 28 #[.int .u64 S, .int .i64 room, .int .i64 votes, .slice (some ⟨g, 0, none⟩) n cb, .int .u64 LS, .int .i64 LM, rv]) := K2.out
  have R3 : Hid (Blk (u2.drewN nq) (w.heap.size + 1) 68 #[.string ⟨#[]⟩, .int .i64 0]) := R2.out
  have B3 : Hid (Below w.heap.size w (u2.drewN nq)) := below_drewN B2.out nq
  clear I2 K2 R2 B2 y0 x1
  generalize u2.drewN nq = u3 at I3 K3 R3 B3 ⊢
  have a1 : u3.cell? ⟨g, p * 2 + 1, none⟩ = some (.int .i64 (AG p)) := I3.out.row.ag pn
  have f1 := I3.out.row.frozen (p * 2 + 1)
  rw [← HAG.out] at a1
  have CM := hidE (emore_ok u3 g (p * 2 + 1) ag a1 f1 ag0 ag1)
  clear a1 f1
  go_wp2_with fail
  refine CM.out.mono ?_
  rintro e u4 ⟨rfl, hu4⟩
  have I4 : Hid (InB u4 Bd g n p gp cap V (fun j => if j = p then ag + 1 else AG j) es) := by rw [hu4]; exact I3.out.setA (ag + 1)
  have F4 : Hid (Far w u4 Bd g gp) := by rw [hu4]; exact (Far.mk' B3.out gl.out.2.2).set (a := ⟨g, p * 2 + 1, none⟩) (Or.inl rfl) I3.out.bg I3.out.bp _
  have R4 : Hid (Blk u4 (w.heap.size + 1) 68 #[.string ⟨#[]⟩, .int .i64 0]) := by rw [hu4]; exact R3.out.other (a := ⟨g, p * 2 + 1, none⟩) (by show w.heap.size + 1 ≠ g; have := gl.out.1; omega) _
  have K4 : Hid (Blk u4 w.heap.size 28 #[.int .u64 S, .int .i64 room, .int .i64 votes, .slice (some ⟨g, 0, none⟩) n cb, .int .u64 LS, .int .i64 LM, rv]) := by rw [hu4]; exact K3.out.other (a := ⟨g, p * 2 + 1, none⟩) (by show w.heap.size ≠ g; have := gl.out.1; omega) _
  have z4 : Hid (w.heap.size + 1 < u4.heap.size) := R4.out.lt
  clear hu4 CM I3 R3 K3 B3
  have x2 : u4.cell? ⟨w.heap.size, 2, none⟩ = some (.int .i64 votes) := K4.out.cell 2
  have CD := hidE (edispute_out u4 Bd g n p gp cap V (fun j => if j = p then ag + 1 else AG j) es s 1 true t d d0 votes I4.out HLOW.out EL.out v1 v2 dd1 dd2 (by have := HC.out; rw [← HAG.out] at this; simpa using this))
  go_wp2_with fail
  refine CD.out.mono ?_
  rintro e u5 ⟨rfl, b5⟩
  have R5 := hidE (R4.out.since b5)
  have I5 := hidE (I4.out.since b5)
  have F5 := hidE (F4.out.since b5 I4.out.low)
  clear b5 CD I4 F4 R4 K4 x2
  have r0 : u5.cell? ⟨w.heap.size + 1, 0, none⟩ = some (.string ⟨#[]⟩) := R5.out.cell 0
  have r1 : u5.cell? ⟨w.heap.size + 1, 1, none⟩ = some (.int .i64 0) := R5.out.cell 1
  have z0 := R5.out.frozen 0
  have z1 := R5.out.frozen 1
  go_wp2_with fail
  refine bodyPost_ret (v := .tuple #[.agg #[.string s, .int .i64 1], .int .i64 0]) ?_ rfl ?_
  rotate_left
  · refine ⟨rfl, ?_⟩
    have e := InB.came (AG := AG) (I5.out.of (w' := eput2 u5 (w.heap.size + 1) (.string s) (.int .i64 1)) (eput2_heap _ _ _ _ _ (by have := gl.out.1; omega)) (eput2_heap _ _ _ _ _ (by have := gl.out.2.1; omega)) (Nat.le_of_eq (e2size _ _ _ _).symm)) (F5.out.put (by omega) (by have := gl.out.2.2; omega) _ _) (fun i hi => if_neg hi) (ag + 1) (if_pos rfl)
    rw [← HAG.out]
    exact e
  have c3 := eput2_blk (t := 68) R5.out (.string s) (.int .i64 1)
  have c30 := c3.cell 0
  have c31 := c3.cell 1
  change (results _ _).run _ (eput2 u5 (w.heap.size + 1) (.string s) (.int .i64 1)) = .ok _ (eput2 u5 (w.heap.size + 1) (.string s) (.int .i64 1))
  generalize eput2 u5 (w.heap.size + 1) (.string s) (.int .i64 1) = W5 at c30 c31
  simp [results, Try.results29, go_sem, c30, c31]
set_option maxHeartbeats 3200000 in
theorem ecome_in (w : World) (Bd g n p cb : Nat) (V : Nat → Value) (AG : Nat → Int) (es : List Ent) (S room votes LS LM : Int) (rv : Value) (s : ByteArray) (pn : p < n) (nc : n ≤ cb) (el : es.length ≤ 1000) (PC : Hid (∀ u, Below w.heap.size w u → Calls Try.prog 53 #[.agg #[.int .u64 S, .int .i64 room, .int .i64 votes, .slice (some ⟨g, 0, none⟩) n cb, .int .u64 LS, .int .i64 LM, rv], .string s] u fun e w' => e = .returned (.int .i64 (p : Int)) ∧ Below u.heap.size u w')) (gp cap : Nat) (h : InB w Bd g n p gp cap V AG es) (ha : atE es s = none) (hr : ¬ (es.length : Int) < room) (a0 : 0 ≤ AG p) (a1 : AG p < 1099511627776) (t : ByteArray) (d : Int) (d0 : Bool) (hlow : es[lowAt es]? = some ⟨t, d, d0⟩) (v1 : 1 ≤ votes) (v2 : votes ≤ 64) (dd1 : 1 ≤ d) (dd2 : d ≤ 1099511627776) (cond : ¬ AG p + 1 < votes * d) :
    Calls Try.prog 29 #[.agg #[.int .u64 S, .int .i64 room, .int .i64 votes, .slice (some ⟨g, 0, none⟩) n cb, .int .u64 LS, .int .i64 LM, rv], .string s] w fun e w' => e = .returned (.tuple #[.agg #[.string t, .int .i64 d], .int .i64 0]) ∧ CameP w w' Bd g n p V AG ⟨es.set (lowAt es) ⟨s, 1, true⟩, 0⟩ := by
  have HLOW := hidE hlow
  have HC := hidE cond
  obtain ⟨ag, hag⟩ : ∃ ag, ag = AG p := ⟨_, rfl⟩
  have HAG := hidE hag
  rw [← hag] at a0 a1
  have ag0 := a0
  have ag1 := a1
  clear hlow cond hag a0 a1
  have IB := hidE h
  have gl := hidE (And.intro h.row.lt (And.intro h.ents.lt h.low))
  have EL := hidE el
  have EA := hidE fun u (b : Below w.heap.size w u) => efind_any u (V p) es s (h.here b) (by omega)
  rw [h.val] at EA
  have HVP := hidE h.val
  have RK := hidE h.row
  obtain ⟨m, hm⟩ : ∃ m, m = es.length := ⟨_, rfl⟩
  have HM := hidE hm
  rw [← hm] at EA HVP
  clear h hm el
  rw [atI_none ha] at EA
  clear ha
  have BX : Hid (Below w.heap.size w ((w.alloc (.cells #[.int .u64 S, .int .i64 room, .int .i64 votes, .slice (some ⟨g, 0, none⟩) n cb, .int .u64 LS, .int .i64 LM, rv] 28)).alloc (.cells #[.string ⟨#[]⟩, .int .i64 0] 68))) := (bel_alloc _ _).alloc (by simp) _
  have KX : Hid (Blk ((w.alloc (.cells #[.int .u64 S, .int .i64 room, .int .i64 votes, .slice (some ⟨g, 0, none⟩) n cb, .int .u64 LS, .int .i64 LM, rv] 28)).alloc (.cells #[.string ⟨#[]⟩, .int .i64 0] 68)) w.heap.size 28 #[.int .u64 S, .int .i64 room, .int .i64 votes, .slice (some ⟨g, 0, none⟩) n cb, .int .u64 LS, .int .i64 LM, rv]) := (Blk.new _ _ _).alloc _
  have KR : Hid (Blk ((w.alloc (.cells #[.int .u64 S, .int .i64 room, .int .i64 votes, .slice (some ⟨g, 0, none⟩) n cb, .int .u64 LS, .int .i64 LM, rv] 28)).alloc (.cells #[.string ⟨#[]⟩, .int .i64 0] 68)) (w.heap.size + 1) 68 #[.string ⟨#[]⟩, .int .i64 0]) := by
    have e := Blk.new (w.alloc (.cells #[.int .u64 S, .int .i64 room, .int .i64 votes, .slice (some ⟨g, 0, none⟩) n cb, .int .u64 LS, .int .i64 LM, rv] 28)) 68 #[.string ⟨#[]⟩, .int .i64 0]
    simp only [World.size_alloc] at e
    exact e
  have pb : (p : Int) < (n : Int) := by omega
  have p0 : (0 : Int) ≤ (p : Int) := by omega
  go_enter Try.func29, Try.ntmps29
  go_wp2_with fail
  generalize ((w.alloc (.cells #[.int .u64 S, .int .i64 room, .int .i64 votes, .slice (some ⟨g, 0, none⟩) n cb, .int .u64 LS, .int .i64 LM, rv] 28)).alloc (.cells #[.string ⟨#[]⟩, .int .i64 0] 68)) = X at BX KX KR ⊢
  refine letterQ ?_
  intro QQ hQQ
  have Z0 : Hid (Below X.heap.size X X.drew) := (Below.refl _ _).drew
  refine wp_region_noPanic ?_
  refine wp_region_held_drew (S := fun w2 => Below X.heap.size X w2) (by kernel_rfl) Z0.out (fun hHeld => ?_)
  clear hHeld
  generalize X.drew = q0 at Z0 ⊢
  refine wpAnyH_take (i := 0) (v := ?_) rfl (by kernel_rfl) (by kernel_rfl) (by kernel_rfl) (fun _ _ _ h => h) (Or.inl ⟨by rfl, ?_⟩) Z0.out ?_
  rotate_left
  · intro wq hSw; go_simp; first | done | with_reducible rfl
  simp only [List.getElem_toArray, List.getElem_cons_zero, Act.put, List.setIfInBounds_toArray, List.set_cons_zero, List.set_cons_succ]
  refine wpAnyH_take (i := 1) (v := ?_) rfl (by kernel_rfl) (by kernel_rfl) (by kernel_rfl) (fun _ _ _ h => h) (Or.inl ⟨by rfl, ?_⟩) Z0.out ?_
  rotate_left
  · intro wq hSw; have cl0 := (KX.out.since hSw).cell 3; go_simp; first | done | with_reducible rfl
  simp only [List.getElem_toArray, List.getElem_cons_zero, List.getElem_cons_succ, Act.put, List.setIfInBounds_toArray, List.set_cons_zero, List.set_cons_succ]
  refine wpAnyH_take (i := 2) (v := ?_) rfl (by kernel_rfl) (by kernel_rfl) (by kernel_rfl) (fun _ _ _ h => h) (Or.inl ⟨by rfl, ?_⟩) Z0.out ?_
  rotate_left
  · intro wq hSw; have cl0 := (KX.out.since hSw).cell 0; have cl1 := (KX.out.since hSw).cell 1; have cl2 := (KX.out.since hSw).cell 2; have cl3 := (KX.out.since hSw).cell 3; have cl4 := (KX.out.since hSw).cell 4; have cl5 := (KX.out.since hSw).cell 5; have cl6 := (KX.out.since hSw).cell 6; go_simp; first | done | with_reducible rfl
  simp only [List.getElem_toArray, List.getElem_cons_zero, List.getElem_cons_succ, Act.put, List.setIfInBounds_toArray, List.set_cons_zero, List.set_cons_succ]
  refine wpAnyH_take (i := 3) (v := ?_) rfl (by kernel_rfl) (by kernel_rfl) (by kernel_rfl) (fun _ _ _ h => h) (Or.inl ⟨by rfl, ?_⟩) Z0.out ?_
  rotate_left
  · intro wq hSw; go_simp; first | done | with_reducible rfl
  simp only [List.getElem_toArray, List.getElem_cons_zero, List.getElem_cons_succ, Act.put, List.setIfInBounds_toArray, List.set_cons_zero, List.set_cons_succ]
  refine wpAnyH_ready (rs := [4]) (by kernel_rfl) (by simp) ?_
  refine AllReadyH.cons rfl (fun K0 hK0 => ?_) ?_
  rotate_left
  · exact AllReadyH.nil
  refine step_func 53 #[.agg #[.int .u64 S, .int .i64 room, .int .i64 votes, .slice (some ⟨g, 0, none⟩) n cb, .int .u64 LS, .int .i64 LM, rv], .string s] (by rfl) rfl (by simp [Act.eval]) (fun _ _ => by kernel_rfl) ?_
  refine (PC.out _ (bel_trans BX.out Z0.out)).mono ?_
  rintro e uw ⟨rfl, b1⟩
  have Z1 : Hid (Below X.heap.size X uw) := bel_trans Z0.out b1
  clear b1
  refine ⟨_, rfl, ?_⟩
  refine hK0.out _ _ (by exact Z1.out) (fun hHeld => ?_)
  clear hK0 K0 hHeld
  simp only [Act.put, List.setIfInBounds_toArray]
  refine wpAnyH_take (i := 5) (v := ?_) rfl (by kernel_rfl) (by kernel_rfl) (by kernel_rfl) (fun _ _ _ h => h) (Or.inl ⟨by rfl, ?_⟩) Z1.out ?_
  rotate_left
  · intro wq hSw; go_simp; first | done | with_reducible rfl
  simp only [List.getElem_toArray, List.getElem_cons_zero, List.getElem_cons_succ, Act.put, List.setIfInBounds_toArray, List.set_cons_zero, List.set_cons_succ]
  refine wpAnyH_take (i := 6) (v := ?_) rfl (by kernel_rfl) (by kernel_rfl) (by kernel_rfl) (fun _ _ _ h => h) (Or.inl ⟨by rfl, ?_⟩) Z1.out ?_
  rotate_left
  · intro wq hSw; go_simp; first | done | with_reducible rfl
  simp only [List.getElem_toArray, List.getElem_cons_zero, List.getElem_cons_succ, Act.put, List.setIfInBounds_toArray, List.set_cons_zero, List.set_cons_succ]
  refine wpAnyH_done (by kernel_rfl) ?_ _
  refine NoPanic.normal ?_
  refine hQQ.out _ _ ?_
  clear hQQ
  have y0 : uw.cell? ⟨g, p * 2, none⟩ = some (.slice (some ⟨gp, 0, none⟩) m cap) := by rw [← HVP.out]; exact (RK.out.since (bel_trans BX.out Z1.out)).ents pn
  go_wp2_with fail
  refine (EA.out _ (bel_trans BX.out Z1.out)).mono ?_
  rintro e u2 ⟨rfl, b2⟩
  have B2 := hidE (bel_trans (bel_trans BX.out Z1.out) b2)
  have K2 := hidE ((KX.out.since Z1.out).since b2)
  have R2 := hidE ((KR.out.since Z1.out).since b2)
  clear b2 BX KX KR EA PC Z1 Z0 y0
  have I2 := hidE (IB.out.since B2.out)
  have y0 : u2.cell? ⟨g, p * 2, none⟩ = some (.slice (some ⟨gp, 0, none⟩) m cap) := by rw [← HVP.out]; exact I2.out.row.ents pn
  have x1 : u2.cell? ⟨w.heap.size, 1, none⟩ = some (.int .i64 room) := K2.out.cell 1
  have nr : ¬ (m : Int) < room := by have := HM.out; omega
  go_wp2_with fail
  go_quiet (fail)
  have I3 : Hid (InB (u2.drewN nq) Bd g n p gp cap V AG es) := I2.out.of rfl rfl (Nat.le_refl _)
  have K3 : Hid (Blk (u2.drewN nq) w.heap.size 28 #[.int .u64 S, .int .i64 room, .int .i64 votes, .slice (some ⟨g, 0, none⟩) n cb, .int .u64 LS, .int .i64 LM, rv]) := K2.out
  have R3 : Hid (Blk (u2.drewN nq) (w.heap.size + 1) 68 #[.string ⟨#[]⟩, .int .i64 0]) := R2.out
  have B3 : Hid (Below w.heap.size w (u2.drewN nq)) := below_drewN B2.out nq
  clear I2 K2 R2 B2 y0 x1
  generalize u2.drewN nq = u3 at I3 K3 R3 B3 ⊢
  have a1 : u3.cell? ⟨g, p * 2 + 1, none⟩ = some (.int .i64 (AG p)) := I3.out.row.ag pn
  have f1 := I3.out.row.frozen (p * 2 + 1)
  rw [← HAG.out] at a1
  have CM := hidE (emore_ok u3 g (p * 2 + 1) ag a1 f1 ag0 ag1)
  clear a1 f1
  go_wp2_with fail
  refine CM.out.mono ?_
  rintro e u4 ⟨rfl, hu4⟩
  have I4 : Hid (InB u4 Bd g n p gp cap V (fun j => if j = p then ag + 1 else AG j) es) := by rw [hu4]; exact I3.out.setA (ag + 1)
  have F4 : Hid (Far w u4 Bd g gp) := by rw [hu4]; exact (Far.mk' B3.out gl.out.2.2).set (a := ⟨g, p * 2 + 1, none⟩) (Or.inl rfl) I3.out.bg I3.out.bp _
  have R4 : Hid (Blk u4 (w.heap.size + 1) 68 #[.string ⟨#[]⟩, .int .i64 0]) := by rw [hu4]; exact R3.out.other (a := ⟨g, p * 2 + 1, none⟩) (by show w.heap.size + 1 ≠ g; have := gl.out.1; omega) _
  have K4 : Hid (Blk u4 w.heap.size 28 #[.int .u64 S, .int .i64 room, .int .i64 votes, .slice (some ⟨g, 0, none⟩) n cb, .int .u64 LS, .int .i64 LM, rv]) := by rw [hu4]; exact K3.out.other (a := ⟨g, p * 2 + 1, none⟩) (by show w.heap.size ≠ g; have := gl.out.1; omega) _
  have z4 : Hid (w.heap.size + 1 < u4.heap.size) := R4.out.lt
  clear hu4 CM I3 R3 K3 B3
  have x2 : u4.cell? ⟨w.heap.size, 2, none⟩ = some (.int .i64 votes) := K4.out.cell 2
  have CD := hidE (edispute_in u4 Bd g n p gp cap V (fun j => if j = p then ag + 1 else AG j) es s 1 true t d d0 votes I4.out HLOW.out EL.out v1 v2 dd1 dd2 (by have := HC.out; rw [← HAG.out] at this; simpa using this))
  go_wp2_with fail
  refine CD.out.mono ?_
  rintro e u5 ⟨rfl, i5, f5⟩
  have R5 : Hid (Blk u5 (w.heap.size + 1) 68 #[.string ⟨#[]⟩, .int .i64 0]) := R4.out.of (f5.1.2 _ ⟨by have := gl.out.1; omega, by have := gl.out.2.1; omega⟩ z4.out)
  have I5 := hidE i5
  have F5 : Hid (Far w u5 Bd g gp) := ⟨F4.out.1.trans f5.1, F4.out.2.trans f5.2⟩
  clear i5 f5 CD I4 F4 R4 K4 x2
  have r0 : u5.cell? ⟨w.heap.size + 1, 0, none⟩ = some (.string ⟨#[]⟩) := R5.out.cell 0
  have r1 : u5.cell? ⟨w.heap.size + 1, 1, none⟩ = some (.int .i64 0) := R5.out.cell 1
  have z0 := R5.out.frozen 0
  have z1 := R5.out.frozen 1
  go_wp2_with fail
  refine bodyPost_ret (v := .tuple #[.agg #[.string t, .int .i64 d], .int .i64 0]) ?_ rfl ?_
  rotate_left
  · refine ⟨rfl, ?_⟩
    have e := InB.came (AG := AG) (I5.out.of (w' := eput2 u5 (w.heap.size + 1) (.string t) (.int .i64 d)) (eput2_heap _ _ _ _ _ (by have := gl.out.1; omega)) (eput2_heap _ _ _ _ _ (by have := gl.out.2.1; omega)) (Nat.le_of_eq (e2size _ _ _ _).symm)) (F5.out.put (by omega) (by have := gl.out.2.2; omega) _ _) (fun i hi => by simp [hi]) 0 (if_pos rfl)
    exact e
  have c3 := eput2_blk (t := 68) R5.out (.string t) (.int .i64 d)
  have c30 := c3.cell 0
  have c31 := c3.cell 1
  change (results _ _).run _ (eput2 u5 (w.heap.size + 1) (.string t) (.int .i64 d)) = .ok _ (eput2 u5 (w.heap.size + 1) (.string t) (.int .i64 d))
  generalize eput2 u5 (w.heap.size + 1) (.string t) (.int .i64 d) = W5 at c30 c31
  simp [results, Try.results29, go_sem, c30, c31]
end Go.Proofs.Ytihealembikkiaa
namespace Go.Proofs.Ytihealembikkiaa
open Go.RowKit Fm Bl Lt El L2 L14 Go.Deep Go.Shelf
set_option linter.unusedVariables false
set_option maxRecDepth 20000
set_option linter.unusedSimpArgs false

theorem room_row {u w1 : World} {g n : Nat} {V : Nat → Value} {AG : Nat → Int} {b : Obj} {row : Option Nat} (h : RowK u g n V AG) (hg : (u.alloc b).grownBy w1 row) (ne : row ≠ some g) : RowK w1 g n V AG :=
  h.of ((hg.block g (by have := h.lt; simp; omega) (fun z => ne z.symm)).trans (Below.heap_alloc _ _ _ h.lt))
theorem room_res {u w1 : World} {g R p : Nat} {t : TypeId} {cs : Array Value} {b : Obj} {row : Option Nat} {v : Value} (h : Blk u R t cs) (hg : (u.alloc b).grownBy w1 row) (ne : row ≠ some R) (gr : R ≠ g) : Blk (w1.setCell ⟨g, p * 2, none⟩ v) R t cs :=
  ((h.alloc b).grown hg (fun z => ne z.symm)).other (a := ⟨g, p * 2, none⟩) gr _
set_option maxHeartbeats 3200000 in
theorem ecome_room (w : World) (Bd g n p cb : Nat) (V : Nat → Value) (AG : Nat → Int) (es : List Ent) (S room votes LS LM : Int) (rv : Value) (s : ByteArray) (pn : p < n) (nc : n ≤ cb) (el : es.length ≤ 1000) (PC : Hid (∀ u, Below w.heap.size w u → Calls Try.prog 53 #[.agg #[.int .u64 S, .int .i64 room, .int .i64 votes, .slice (some ⟨g, 0, none⟩) n cb, .int .u64 LS, .int .i64 LM, rv], .string s] u fun e w' => e = .returned (.int .i64 (p : Int)) ∧ Below u.heap.size u w')) (h : RowK w g n V AG) (own : w.ownsRow Bd 76 3 (V p) es.length (eCells es)) (ne : (V p).ownBlock ≠ some g) (bg : Bd ≤ g) (bl : Bd ≤ w.heap.size) (ha : atE es s = none) (hr : (es.length : Int) < room) :
    Calls Try.prog 29 #[.agg #[.int .u64 S, .int .i64 room, .int .i64 votes, .slice (some ⟨g, 0, none⟩) n cb, .int .u64 LS, .int .i64 LM, rv], .string s] w fun e w' => e = .returned (.tuple #[.agg #[.string ⟨#[]⟩, .int .i64 0], .int .i64 0]) ∧ CameP w w' Bd g n p V AG ⟨es ++ [⟨s, 1, false⟩], AG p⟩ := by
  obtain ⟨A, c, hv⟩ := own_slice own
  obtain ⟨m, hm⟩ : ∃ m, m = es.length := ⟨_, rfl⟩
  have HM := hidE hm
  rw [← hm] at hv hr
  have HVP := hidE hv
  have OWN := hidE own
  have NE := hidE ne
  have RK := hidE h
  have gl := hidE h.lt
  have EA := hidE fun u (b : Below w.heap.size w u) => efind_any u (V p) es s (owns_ents (owns_below own b)) (by omega)
  rw [hv] at EA
  rw [atI_none ha] at EA
  have ml : m ≤ 1000 := by omega
  obtain ⟨it, hi, hz0, hz1, hz2⟩ := infoEE
  have HT : Hid (Try.prog.info? 76 = some it ∧ it.zero = some (.agg #[.string ⟨#[]⟩, .int .i64 0, .bool false]) ∧ it.size = 3 ∧ it.bytes = 32) := ⟨hi, hz0, hz1, hz2⟩
  clear hi hz0 hz1 hz2 h own ne hm hv ha el
  have BX : Hid (Below w.heap.size w ((w.alloc (.cells #[.int .u64 S, .int .i64 room, .int .i64 votes, .slice (some ⟨g, 0, none⟩) n cb, .int .u64 LS, .int .i64 LM, rv] 28)).alloc (.cells #[.string ⟨#[]⟩, .int .i64 0] 68))) := (bel_alloc _ _).alloc (by simp) _
  have KX : Hid (Blk ((w.alloc (.cells #[.int .u64 S, .int .i64 room, .int .i64 votes, .slice (some ⟨g, 0, none⟩) n cb, .int .u64 LS, .int .i64 LM, rv] 28)).alloc (.cells #[.string ⟨#[]⟩, .int .i64 0] 68)) w.heap.size 28 #[.int .u64 S, .int .i64 room, .int .i64 votes, .slice (some ⟨g, 0, none⟩) n cb, .int .u64 LS, .int .i64 LM, rv]) := (Blk.new _ _ _).alloc _
  have KR : Hid (Blk ((w.alloc (.cells #[.int .u64 S, .int .i64 room, .int .i64 votes, .slice (some ⟨g, 0, none⟩) n cb, .int .u64 LS, .int .i64 LM, rv] 28)).alloc (.cells #[.string ⟨#[]⟩, .int .i64 0] 68)) (w.heap.size + 1) 68 #[.string ⟨#[]⟩, .int .i64 0]) := by
    have e := Blk.new (w.alloc (.cells #[.int .u64 S, .int .i64 room, .int .i64 votes, .slice (some ⟨g, 0, none⟩) n cb, .int .u64 LS, .int .i64 LM, rv] 28)) 68 #[.string ⟨#[]⟩, .int .i64 0]
    simp only [World.size_alloc] at e
    exact e
  have pb : (p : Int) < (n : Int) := by omega
  have p0 : (0 : Int) ≤ (p : Int) := by omega
  go_enter Try.func29, Try.ntmps29
  go_wp2_with fail
  generalize ((w.alloc (.cells #[.int .u64 S, .int .i64 room, .int .i64 votes, .slice (some ⟨g, 0, none⟩) n cb, .int .u64 LS, .int .i64 LM, rv] 28)).alloc (.cells #[.string ⟨#[]⟩, .int .i64 0] 68)) = X at BX KX KR ⊢
  refine letterQ ?_
  intro QQ hQQ
  have Z0 : Hid (Below X.heap.size X X.drew) := (Below.refl _ _).drew
  refine wp_region_noPanic ?_
  refine wp_region_held_drew (S := fun w2 => Below X.heap.size X w2) (by kernel_rfl) Z0.out (fun hHeld => ?_)
  clear hHeld
  generalize X.drew = q0 at Z0 ⊢
  refine wpAnyH_take (i := 0) (v := ?_) rfl (by kernel_rfl) (by kernel_rfl) (by kernel_rfl) (fun _ _ _ h => h) (Or.inl ⟨by rfl, ?_⟩) Z0.out ?_
  rotate_left
  · intro wq hSw; go_simp; first | done | with_reducible rfl
  simp only [List.getElem_toArray, List.getElem_cons_zero, Act.put, List.setIfInBounds_toArray, List.set_cons_zero, List.set_cons_succ]
  refine wpAnyH_take (i := 1) (v := ?_) rfl (by kernel_rfl) (by kernel_rfl) (by kernel_rfl) (fun _ _ _ h => h) (Or.inl ⟨by rfl, ?_⟩) Z0.out ?_
  rotate_left
  · intro wq hSw; have cl0 := (KX.out.since hSw).cell 3; go_simp; first | done | with_reducible rfl
  simp only [List.getElem_toArray, List.getElem_cons_zero, List.getElem_cons_succ, Act.put, List.setIfInBounds_toArray, List.set_cons_zero, List.set_cons_succ]
  refine wpAnyH_take (i := 2) (v := ?_) rfl (by kernel_rfl) (by kernel_rfl) (by kernel_rfl) (fun _ _ _ h => h) (Or.inl ⟨by rfl, ?_⟩) Z0.out ?_
  rotate_left
  · intro wq hSw; have cl0 := (KX.out.since hSw).cell 0; have cl1 := (KX.out.since hSw).cell 1; have cl2 := (KX.out.since hSw).cell 2; have cl3 := (KX.out.since hSw).cell 3; have cl4 := (KX.out.since hSw).cell 4; have cl5 := (KX.out.since hSw).cell 5; have cl6 := (KX.out.since hSw).cell 6; go_simp; first | done | with_reducible rfl
  simp only [List.getElem_toArray, List.getElem_cons_zero, List.getElem_cons_succ, Act.put, List.setIfInBounds_toArray, List.set_cons_zero, List.set_cons_succ]
  refine wpAnyH_take (i := 3) (v := ?_) rfl (by kernel_rfl) (by kernel_rfl) (by kernel_rfl) (fun _ _ _ h => h) (Or.inl ⟨by rfl, ?_⟩) Z0.out ?_
  rotate_left
  · intro wq hSw; go_simp; first | done | with_reducible rfl
  simp only [List.getElem_toArray, List.getElem_cons_zero, List.getElem_cons_succ, Act.put, List.setIfInBounds_toArray, List.set_cons_zero, List.set_cons_succ]
  refine wpAnyH_ready (rs := [4]) (by kernel_rfl) (by simp) ?_
  refine AllReadyH.cons rfl (fun K0 hK0 => ?_) ?_
  rotate_left
  · exact AllReadyH.nil
  refine step_func 53 #[.agg #[.int .u64 S, .int .i64 room, .int .i64 votes, .slice (some ⟨g, 0, none⟩) n cb, .int .u64 LS, .int .i64 LM, rv], .string s] (by rfl) rfl (by simp [Act.eval]) (fun _ _ => by kernel_rfl) ?_
  refine (PC.out _ (bel_trans BX.out Z0.out)).mono ?_
  rintro e uw ⟨rfl, b1⟩
  have Z1 : Hid (Below X.heap.size X uw) := bel_trans Z0.out b1
  clear b1
  refine ⟨_, rfl, ?_⟩
  refine hK0.out _ _ (by exact Z1.out) (fun hHeld => ?_)
  clear hK0 K0 hHeld
  simp only [Act.put, List.setIfInBounds_toArray]
  refine wpAnyH_take (i := 5) (v := ?_) rfl (by kernel_rfl) (by kernel_rfl) (by kernel_rfl) (fun _ _ _ h => h) (Or.inl ⟨by rfl, ?_⟩) Z1.out ?_
  rotate_left
  · intro wq hSw; go_simp; first | done | with_reducible rfl
  simp only [List.getElem_toArray, List.getElem_cons_zero, List.getElem_cons_succ, Act.put, List.setIfInBounds_toArray, List.set_cons_zero, List.set_cons_succ]
  refine wpAnyH_take (i := 6) (v := ?_) rfl (by kernel_rfl) (by kernel_rfl) (by kernel_rfl) (fun _ _ _ h => h) (Or.inl ⟨by rfl, ?_⟩) Z1.out ?_
  rotate_left
  · intro wq hSw; go_simp; first | done | with_reducible rfl
  simp only [List.getElem_toArray, List.getElem_cons_zero, List.getElem_cons_succ, Act.put, List.setIfInBounds_toArray, List.set_cons_zero, List.set_cons_succ]
  refine wpAnyH_done (by kernel_rfl) ?_ _
  refine NoPanic.normal ?_
  refine hQQ.out _ _ ?_
  clear hQQ
  have y0 : uw.cell? ⟨g, p * 2, none⟩ = some (.slice A m c) := by rw [← HVP.out]; exact (RK.out.since (bel_trans BX.out Z1.out)).ents pn
  go_wp2_with fail
  refine (EA.out _ (bel_trans BX.out Z1.out)).mono ?_
  rintro e u2 ⟨rfl, b2⟩
  have B2 := hidE (bel_trans (bel_trans BX.out Z1.out) b2)
  have K2 := hidE ((KX.out.since Z1.out).since b2)
  have R2 := hidE ((KR.out.since Z1.out).since b2)
  clear b2 BX KX KR EA PC Z1 Z0 y0
  have y0 : u2.cell? ⟨g, p * 2, none⟩ = some (.slice A m c) := by rw [← HVP.out]; exact (RK.out.since B2.out).ents pn
  have x1 : u2.cell? ⟨w.heap.size, 1, none⟩ = some (.int .i64 room) := K2.out.cell 1
  go_wp2_with fail
  go_quiet (fail)
  have RK3 : Hid (RowK (u2.drewN nq) g n V AG) := (RK.out.since B2.out).of rfl
  have OW3 : Hid ((u2.drewN nq).ownsRow Bd 76 3 (.slice A m c) m (eCells es)) := by
    have := owns_below OWN.out B2.out
    rw [HVP.out, ← HM.out] at this
    exact owns_at this fun _ _ => rfl
  have R3 : Hid (Blk (u2.drewN nq) (w.heap.size + 1) 68 #[.string ⟨#[]⟩, .int .i64 0]) := R2.out
  have B3 : Hid (Below w.heap.size w (u2.drewN nq)) := below_drewN B2.out nq
  clear R2 K2 B2 y0 x1
  generalize u2.drewN nq = u3 at RK3 OW3 R3 B3 ⊢
  have y0 : u3.cell? ⟨g, p * 2, none⟩ = some (.slice A m c) := by rw [← HVP.out]; exact RK3.out.ents pn
  have z3 : Hid (Bd ≤ u3.heap.size ∧ g < u3.heap.size ∧ w.heap.size + 1 < u3.heap.size) := ⟨by have := B3.out.size; omega, RK3.out.lt, R3.out.lt⟩
  have NE3 : Hid ((Value.slice A m c).ownBlock ≠ some g) := by rw [← HVP.out]; exact NE.out
  have NR : Hid ((Value.slice A m c).ownBlock ≠ some (w.heap.size + 1)) := by
    rw [← HVP.out]
    intro q
    have := (OWN.out.lt _ q).2
    omega
  have GR : Hid (w.heap.size + 1 ≠ g) := by have := gl.out; show w.heap.size + 1 ≠ g; omega
  go_wp2_with (at_builtin; refine wpList_append_lies _ rfl _ _ _ rfl Bd 76 it (.agg #[.string ⟨#[]⟩, .int .i64 0, .bool false]) 3 32 Try.underlying54 HT.out.1 HT.out.2.1 HT.out.2.2.1 HT.out.2.2.2 rfl (by omega) (.slice A m c) m (eCells es) (by rfl) (OW3.out.alloc _) ⟨u3.heap.size, 0, none⟩ 1 1 [.string s, .int .i64 1, .bool false] (by rfl) rfl (new_ent u3 76 _ _ _) (ent_cell _ _ _) (by omega) (by unfold maxLen; omega) (by omega) (by have := z3.out.1; simp; omega) _ rfl ?_; intro gq cap1 w1 hown1 hgrow hat hlt1; have RK4 := hidE (room_row RK3.out hgrow NE3.out); have y1 := (room_row RK3.out hgrow NE3.out).ents pn; have f1 := (room_row RK3.out hgrow NE3.out).frozen (p * 2); have hr5 := room_res (p := p) (v := .slice (some ⟨gq, 0, none⟩) (m + 1) cap1) R3.out hgrow NR.out GR.out; have r0 := hr5.cell 0; have r1 := hr5.cell 1; have z0 := hr5.frozen 0; have z1 := hr5.frozen 1)
  have NG : Hid (gq ≠ g) := fun z => by
    rcases hat with q | q
    · exact NE3.out (by rw [q, z])
    · have := z3.out.2.1
      simp at q
      omega
  have OW4 : Hid (w1.ownsRow Bd 76 3 (.slice (some ⟨gq, 0, none⟩) (m + 1) cap1) (m + 1) (eCells es ++ [.string s, .int .i64 1, .bool false])) := hown1
  have R4 : Hid (Blk w1 (w.heap.size + 1) 68 #[.string ⟨#[]⟩, .int .i64 0]) := (R3.out.alloc _).grown hgrow (fun z => NR.out z.symm)
  have S4 : Hid (Same (fun q => q ≠ g ∧ some q ≠ (V p).ownBlock) w w1) := by
    rw [HVP.out]
    refine (Same.below B3.out).trans ⟨?_, fun q d hq => ?_⟩
    · have := hgrow.size
      simp at this
      omega
    · exact (hgrow.block q (by simp; omega) (fun z => d.2 z)).trans (Below.heap_alloc _ _ _ hq)
  have B4 : Hid (Below Bd w w1) := ((B3.out.mono bl).alloc z3.out.1 _).grown hgrow (by have := z3.out.1; simp; omega) (fun q hq => (OW3.out.lt q hq).1)
  clear hown1 hgrow hat hlt1 R3 B3 OW3 RK3 z3 y0
  have R5 : Hid (Blk (w1.setCell ⟨g, p * 2, none⟩ (.slice (some ⟨gq, 0, none⟩) (m + 1) cap1)) (w.heap.size + 1) 68 #[.string ⟨#[]⟩, .int .i64 0]) := R4.out.other (a := ⟨g, p * 2, none⟩) (by show w.heap.size + 1 ≠ g; have := gl.out; omega) _
  have C5 : Hid (CameP w (eput2 (w1.setCell ⟨g, p * 2, none⟩ (.slice (some ⟨gq, 0, none⟩) (m + 1) cap1)) (w.heap.size + 1) (.string ⟨#[]⟩) (.int .i64 0)) Bd g n p V AG ⟨es ++ [⟨s, 1, false⟩], AG p⟩) := by
    have gb := OW4.out.lt gq rfl
    have far : ∀ q, q ≠ w.heap.size + 1 → (eput2 (w1.setCell ⟨g, p * 2, none⟩ (.slice (some ⟨gq, 0, none⟩) (m + 1) cap1)) (w.heap.size + 1) (.string ⟨#[]⟩) (.int .i64 0)).heap[q]? = (w1.setCell ⟨g, p * 2, none⟩ (.slice (some ⟨gq, 0, none⟩) (m + 1) cap1)).heap[q]? := fun q hq => eput2_heap _ _ _ _ q hq
    have gr : gq ≠ w.heap.size + 1 := fun z => by
      have h1 : w1.heap[gq]? = some (.cells #[.string ⟨#[]⟩, .int .i64 0] 68 (0, 0)) := by rw [z]; exact R4.out
      rcases OW4.out.2 with ⟨q, _⟩ | ⟨g2, c2, cur, hv, _, hg, _⟩
      · cases q
      · cases hv
        rw [hg] at h1
        cases h1
    refine ⟨fun j => if j = p then .slice (some ⟨gq, 0, none⟩) (m + 1) cap1 else V j, AG, gq, (RK4.out.setE p _).of (far g (by have := gl.out; omega)), rfl, fun i hi => ⟨if_neg hi, rfl⟩, gb.1, ?_, ?_, ?_⟩
    · simp only [if_pos]
      have e1 : (es ++ [(⟨s, 1, false⟩ : Ent)]).length = m + 1 := by rw [List.length_append, HM.out]; rfl
      have e2 : eCells (es ++ [⟨s, 1, false⟩]) = eCells es ++ [.string s, .int .i64 1, .bool false] := eCells_append es _
      have ow : (eput2 (w1.setCell ⟨g, p * 2, none⟩ (.slice (some ⟨gq, 0, none⟩) (m + 1) cap1)) (w.heap.size + 1) (.string ⟨#[]⟩) (.int .i64 0)).ownsRow Bd 76 3 (.slice (some ⟨gq, 0, none⟩) (m + 1) cap1) (es ++ [(⟨s, 1, false⟩ : Ent)]).length (eCells (es ++ [⟨s, 1, false⟩])) := by
        rw [e1, e2]
        exact owns_at OW4.out fun q hq => by
          cases hq
          exact (far gq gr).trans (Below.heap_setCell _ _ _ _ NG.out)
      exact ents_held ow fun q hq => by cases hq; rfl
    · refine ⟨by have := S4.out.1; rw [e2size, size_setCell]; exact this, fun q d hq => ?_⟩
      exact (far q (by omega)).trans ((Below.heap_setCell _ _ _ _ d.1).trans (S4.out.2 q d hq))
    · exact eput2_below (B4.out.setCell (p := ⟨g, p * 2, none⟩) bg _) (by omega) _ _
  clear R4 S4 B4 OW4 RK4
  refine bodyPost_ret (v := .tuple #[.agg #[.string ⟨#[]⟩, .int .i64 0], .int .i64 0]) ?_ rfl ?_
  rotate_left
  · exact ⟨rfl, C5.out⟩
  have c3 := eput2_blk (t := 68) R5.out (.string ⟨#[]⟩) (.int .i64 0)
  have c30 := c3.cell 0
  have c31 := c3.cell 1
  change (results _ _).run _ (eput2 (w1.setCell ⟨g, p * 2, none⟩ (.slice (some ⟨gq, 0, none⟩) (m + 1) cap1)) (w.heap.size + 1) (.string ⟨#[]⟩) (.int .i64 0)) = .ok _ (eput2 (w1.setCell ⟨g, p * 2, none⟩ (.slice (some ⟨gq, 0, none⟩) (m + 1) cap1)) (w.heap.size + 1) (.string ⟨#[]⟩) (.int .i64 0))
  generalize eput2 (w1.setCell ⟨g, p * 2, none⟩ (.slice (some ⟨gq, 0, none⟩) (m + 1) cap1)) (w.heap.size + 1) (.string ⟨#[]⟩) (.int .i64 0) = W5 at c30 c31
  simp [results, Try.results29, go_sem, c30, c31]
end Go.Proofs.Ytihealembikkiaa
namespace Go.Proofs.Ytihealembikkiaa
open Go.RowKit Fm Bl Lt El L2 L10 L14 Go.Deep Go.Shelf
set_option linter.unusedVariables false
set_option maxRecDepth 20000
set_option linter.unusedSimpArgs false

/-- What goes to Light, as come tells it. -/
def itO : Option (ByteArray × Int) → Value
  | none => .agg #[.string ⟨#[]⟩, .int .i64 0]
  | some y => .agg #[.string y.1, .int .i64 y.2]
theorem own_rowV {w : World} {Bd : Nat} {v : Value} {l : List Ent} (h : w.ownsRow Bd 76 3 v l.length (eCells l)) (n0 : 0 < l.length) : ∃ g cap, v = .slice (some ⟨g, 0, none⟩) l.length cap ∧ Bd ≤ g ∧ l.length ≤ cap ∧ RowV w g 76 (l.length * 3) (cE l) := by
  rcases h.2 with ⟨_, z⟩ | ⟨g, cap, cur, hv, hb, hg, hc, _, _, hx⟩
  · omega
  · refine ⟨g, cap, hv, hb, hc, cur, hg, fun j hj => ?_⟩
    obtain ⟨u, hu⟩ : ∃ u, (eCells l)[j]? = some u := ⟨_, List.getElem?_eq_getElem (by rw [eCells_len]; exact hj)⟩
    have e : cE l j = u := by unfold cE; rw [hu]; rfl
    rw [e]
    rw [← hx, List.getElem?_take, if_pos hj, Array.getElem?_toList] at hu
    exact hu
theorem own_InB {w : World} {Bd g n p : Nat} {V : Nat → Value} {AG : Nat → Int} {es : List Ent} (h : RowK w g n V AG) (own : w.ownsRow Bd 76 3 (V p) es.length (eCells es)) (ne : (V p).ownBlock ≠ some g) (bg : Bd ≤ g) (pn : p < n) (bl : Bd ≤ w.heap.size) (n0 : 0 < es.length) : ∃ gp cap, InB w Bd g n p gp cap V AG es := by
  obtain ⟨gp, cap, hv, hb, hc, hr⟩ := own_rowV own n0
  exact ⟨gp, cap, h, hv, hc, hr, fun z => ne (by rw [hv, z]; rfl), bg, hb, pn, bl⟩
theorem ecome_ok (w : World) (Bd g n p cb : Nat) (V : Nat → Value) (AG : Nat → Int) (es : List Ent) (S room votes LS LM : Int) (rv : Value) (s : ByteArray) (pn : p < n) (nc : n ≤ cb) (el : es.length ≤ 1000) (PC : Hid (∀ u, Below w.heap.size w u → Calls Try.prog 53 #[.agg #[.int .u64 S, .int .i64 room, .int .i64 votes, .slice (some ⟨g, 0, none⟩) n cb, .int .u64 LS, .int .i64 LM, rv], .string s] u fun e w' => e = .returned (.int .i64 (p : Int)) ∧ Below u.heap.size u w')) (h : RowK w g n V AG) (own : w.ownsRow Bd 76 3 (V p) es.length (eCells es)) (ne : (V p).ownBlock ≠ some g) (bg : Bd ≤ g) (bl : Bd ≤ w.heap.size) (rb : RightB room ⟨es, AG p⟩) (r1 : 1 ≤ room) (v1 : 1 ≤ votes) (v2 : votes ≤ 64) (b' : Bkt) (o : Option (ByteArray × Int)) (ha : El.addB room.toNat votes ⟨es, AG p⟩ s = some (b', o)) :
    Calls Try.prog 29 #[.agg #[.int .u64 S, .int .i64 room, .int .i64 votes, .slice (some ⟨g, 0, none⟩) n cb, .int .u64 LS, .int .i64 LM, rv], .string s] w fun e w' => e = .returned (.tuple #[itO o, .int .i64 0]) ∧ CameP w w' Bd g n p V AG b' := by
  obtain ⟨rl, ra0, ra1, re⟩ := rb
  simp only at rl ra0 ra1 re
  cases ga : atE es s with
  | some i =>
    obtain ⟨e, he, _⟩ := atE_some ga
    have r := re i e he
    rw [addB_at (b := ⟨es, AG p⟩) ga he] at ha
    obtain ⟨gp, cap, hI⟩ := own_InB h own ne bg pn bl (by have := (List.getElem?_eq_some_iff.1 he).1; omega)
    by_cases m : e.v + 1 > 1099511627776
    · rw [if_pos m] at ha; cases ha
    · rw [if_neg m] at ha
      cases ha
      exact ecome_at w Bd g n p cb V AG es S room votes LS LM rv s pn nc el PC gp cap hI i e.k e.v e.f ga he (by omega) (by omega)
  | none =>
    by_cases r : es.length < room.toNat
    · rw [addB_room (b := ⟨es, AG p⟩) ga r] at ha
      cases ha
      exact ecome_room w Bd g n p cb V AG es S room votes LS LM rv s pn nc el PC h own ne bg bl ga (by omega)
    · by_cases a : AG p + 1 > 1099511627776
      · rw [addB_full (b := ⟨es, AG p⟩) ga r a] at ha; cases ha
      · have n0 : 0 < es.length := by omega
        obtain ⟨gp, cap, hI⟩ := own_InB h own ne bg pn bl n0
        obtain ⟨e, he⟩ : ∃ e, es[lowAt es]? = some e := ⟨_, List.getElem?_eq_getElem (lowAt_lt n0)⟩
        have r3 := re _ e he
        rw [addB_low (b := ⟨es, AG p⟩) ga r a he] at ha
        by_cases c : AG p + 1 ≥ votes * e.v
        · rw [if_pos c] at ha
          cases ha
          exact ecome_in w Bd g n p cb V AG es S room votes LS LM rv s pn nc el PC gp cap hI ga (by omega) ra0 (by omega) e.k e.v e.f he v1 v2 r3.1 r3.2.1 (by omega)
        · rw [if_neg c] at ha
          cases ha
          exact ecome_out w Bd g n p cb V AG es S room votes LS LM rv s pn nc el PC gp cap hI ga (by omega) ra0 (by omega) e.k e.v e.f he v1 v2 r3.1 r3.2.1 (by omega)
theorem ecome_no (w : World) (Bd g n p cb : Nat) (V : Nat → Value) (AG : Nat → Int) (es : List Ent) (S room votes LS LM : Int) (rv : Value) (s : ByteArray) (pn : p < n) (nc : n ≤ cb) (el : es.length ≤ 1000) (PC : Hid (∀ u, Below w.heap.size w u → Calls Try.prog 53 #[.agg #[.int .u64 S, .int .i64 room, .int .i64 votes, .slice (some ⟨g, 0, none⟩) n cb, .int .u64 LS, .int .i64 LM, rv], .string s] u fun e w' => e = .returned (.int .i64 (p : Int)) ∧ Below u.heap.size u w')) (h : RowK w g n V AG) (own : w.ownsRow Bd 76 3 (V p) es.length (eCells es)) (ne : (V p).ownBlock ≠ some g) (bg : Bd ≤ g) (bl : Bd ≤ w.heap.size) (rb : RightB room ⟨es, AG p⟩) (r1 : 1 ≤ room) (ha : El.addB room.toNat votes ⟨es, AG p⟩ s = none) :
    Calls Try.prog 29 #[.agg #[.int .u64 S, .int .i64 room, .int .i64 votes, .slice (some ⟨g, 0, none⟩) n cb, .int .u64 LS, .int .i64 LM, rv], .string s] w fun e w' => e = .returned (.tuple #[.agg #[.string ⟨#[]⟩, .int .i64 0], .int .i64 5]) ∧ Below w.heap.size w w' := by
  obtain ⟨rl, ra0, ra1, re⟩ := rb
  simp only at rl ra0 ra1 re
  cases ga : atE es s with
  | some i =>
    obtain ⟨e, he, _⟩ := atE_some ga
    have r := re i e he
    rw [addB_at (b := ⟨es, AG p⟩) ga he] at ha
    obtain ⟨gp, cap, hI⟩ := own_InB h own ne bg pn bl (by have := (List.getElem?_eq_some_iff.1 he).1; omega)
    by_cases m : e.v + 1 > 1099511627776
    · have ev : e = ⟨e.k, 1099511627776, e.f⟩ := by
        obtain ⟨k, v, f⟩ := e
        simp only at m r
        have : v = 1099511627776 := by omega
        rw [this]
      rw [ev] at he
      exact ecome_at_full w Bd g n p cb V AG es S room votes LS LM rv s pn nc el PC gp cap hI i e.k e.f ga he
    · rw [if_neg m] at ha; cases ha
  | none =>
    by_cases r : es.length < room.toNat
    · rw [addB_room (b := ⟨es, AG p⟩) ga r] at ha; cases ha
    · have n0 : 0 < es.length := by omega
      obtain ⟨gp, cap, hI⟩ := own_InB h own ne bg pn bl n0
      by_cases a : AG p + 1 > 1099511627776
      · exact ecome_full w Bd g n p cb V AG es S room votes LS LM rv s pn nc el PC gp cap hI ga (by omega) (by omega)
      · obtain ⟨e, he⟩ : ∃ e, es[lowAt es]? = some e := ⟨_, List.getElem?_eq_getElem (lowAt_lt n0)⟩
        rw [addB_low (b := ⟨es, AG p⟩) ga r a he] at ha
        split at ha <;> cases ha
/-- Buckets by their row and their entries. -/
theorem bkts_of {w : World} {g n cap : Nat} {V : Nat → Value} {AG : Nat → Int} {bs : List Bkt} (h : RowK w g n V AG) (hn : n = bs.length) (hc : n ≤ cap) (a : ∀ (i : Nat) (x : Bkt), bs[i]? = some x → AG i = x.ag ∧ EntsE w (V i) x.es) : BktsE w (.slice (some ⟨g, 0, none⟩) n cap) bs := by
  refine ⟨_, cap, g, 0, by rw [hn], by omega, fun _ => rfl, fun i x hx => ?_⟩
  have li := (List.getElem?_eq_some_iff.1 hx).1
  obtain ⟨a1, a2⟩ := a i x hx
  rw [Nat.zero_add]
  exact ⟨V i, h.ents (by omega), by rw [h.ag (by omega), a1], a2⟩
theorem CopB.bkts {w0 w : World} {g n p cap : Nat} {bs : List Bkt} {V : Nat → Value} {AG : Nat → Int} (h : CopB w0 w g n p n bs V AG) (hn : n = bs.length) (hc : n ≤ cap) : Held (fun q => w0.heap.size ≤ q) (fun u => BktsE u (.slice (some ⟨g, 0, none⟩) n cap) bs) w := fun u e => by
  refine bkts_of (h.row.of (e.2 g h.base h.row.lt)) hn hc fun i x hx => ⟨h.ags i x hx, ?_⟩
  have li := (List.getElem?_eq_some_iff.1 hx).1
  by_cases ip : i = p
  · subst ip
    obtain ⟨o1, o2⟩ := h.own x (by omega) hx
    exact ents_held o1 (fun q hq => (o1.lt q hq).1) u e
  · exact h.new i x (by omega) ip hx u (e.mono fun q _ d => d.1)
/-- .. with a key that came. -/
theorem came_bkts {w0 w1 w2 w3 : World} {g n p cap : Nat} {bs : List Bkt} {V : Nat → Value} {AG : Nat → Int} {b' : Bkt} (h : CopB w0 w1 g n p n bs V AG) (sm : Same (fun q => w0.heap.size ≤ q) w1 w2) (c : CameP w2 w3 w0.heap.size g n p V AG b') (hn : n = bs.length) (hc : n ≤ cap) (pn : p < n) :
    Held (fun q => w0.heap.size ≤ q) (fun u => BktsE u (.slice (some ⟨g, 0, none⟩) n cap) (bs.set p b')) w3 := fun u e => by
  obtain ⟨V', AG', gp, row, hag, oth, hb, ents, s2, _⟩ := c
  refine bkts_of (row.of (e.2 g h.base row.lt)) (by rw [List.length_set]; exact hn) hc fun i x hx => ?_
  have li : i < n := by have := (List.getElem?_eq_some_iff.1 hx).1; rw [List.length_set] at this; omega
  by_cases ip : i = p
  · subst ip
    rw [List.getElem?_set, if_pos rfl, if_pos (by omega)] at hx
    cases hx
    exact ⟨hag, ents u (e.mono fun q _ d => by rw [d]; exact hb)⟩
  · rw [List.getElem?_set, if_neg (fun z => ip z.symm)] at hx
    rw [(oth i ip).1, (oth i ip).2]
    refine ⟨h.ags i x hx, ?_⟩
    obtain ⟨y, hy⟩ : ∃ y, bs[p]? = some y := ⟨_, List.getElem?_eq_getElem (by omega)⟩
    have s3 : Same (fun q => w0.heap.size ≤ q ∧ q ≠ g ∧ some q ≠ ownP V p n) w1 u := (sm.mono fun q _ d => d.1).trans ((s2.mono fun q _ d => ⟨d.2.1, by have := d.2.2; unfold ownP at this; rw [if_pos pn] at this; exact this⟩).trans (e.mono fun q _ d => d.1))
    exact h.new i x (by omega) ip hx u s3
theorem small_of {S room votes : Int} {bs : List Bkt} {R c : Nat} {Z : Nat → Nat → Int} (h : RightE (elF S room votes bs R c Z)) (k : ShortE bs) : SmallE (elF S room votes bs R c Z) := by
  obtain ⟨h1, h2, h3, h4, h5, h6, h7, h8, h9, h10⟩ := h
  have ok := h7.ok
  refine ⟨by have := h6; omega, ⟨by have := ok.2.2.2.1; show R < 20; have : R ≤ 7 := this; omega, fun i hi => by have : c ≤ 256 := ok.2.2.2.2.2.1; show c ≤ 300; omega⟩, fun i b hb => ⟨?_, fun j e he => k i b hb j e he⟩⟩
  have := (h10 i b hb).1
  omega
theorem light_none {S : Int} {R c : Nat} {Z : Nat → Nat → Int} (ok : OkP 255 R c Z) (s : ByteArray) (i j : Nat) (hi : i < R) (hj : j < c) : addZ S 255 c Z s 0 i j = Z i j := by
  unfold addZ capF
  have := (ok.2.2.2.2.2.2 i hi j hj).2
  split
  · rw [if_pos (by omega)]; omega
  · rfl
end Go.Proofs.Ytihealembikkiaa
