
/-
  dispute and come of layer 15 (elastic): what they answer, and what they write.
-/
import Derived.Test.YtihealembikkiaaElCopy
import Derived.Deep.AppendLies
namespace Go.Proofs.Ytihealembikkiaa
open Go.RowKit Fm Bl Lt El L2 L14 Go.Deep Go.Shelf
set_option linter.unusedVariables false
set_option maxRecDepth 20000
set_option linter.unusedSimpArgs false

theorem e2size (w : World) (g : Nat) (a0 a1 : Value) : (eput2 w g a0 a1).heap.size = w.heap.size := by unfold eput2; rw [size_setCell, size_setCell]
/-- The cells of entries. -/
def cE (l : List Ent) (j : Nat) : Value := (eCells l)[j]?.getD undef
theorem cE_at {l : List Ent} {i : Nat} {e : Ent} (h : l[i]? = some e) : cE l (i * 3) = .string e.k ∧ cE l (i * 3 + 1) = .int .i64 e.v ∧ cE l (i * 3 + 2) = .bool e.f := by
  obtain ⟨g1, g2, g3⟩ := eCells_get l i e h
  unfold cE
  rw [g1, g2, g3]
  exact ⟨rfl, rfl, rfl⟩
theorem cE_set {l : List Ent} {i : Nat} {y : Ent} (hi : i < l.length) {j : Nat} (hj : j < l.length * 3) : (if j = i * 3 + 2 then Value.bool y.f else if j = i * 3 + 1 then .int .i64 y.v else if j = i * 3 then .string y.k else cE l j) = cE (l.set i y) j := by
  obtain ⟨a, r, hr, rfl⟩ : ∃ a r, r < 3 ∧ j = a * 3 + r := ⟨j / 3, j % 3, Nat.mod_lt _ (by omega), by omega⟩
  have al : a < l.length := by omega
  obtain ⟨x, hx⟩ : ∃ x, l[a]? = some x := ⟨_, List.getElem?_eq_getElem al⟩
  obtain ⟨c1, c2, c3⟩ := cE_at hx
  by_cases e : a = i
  · subst e
    obtain ⟨d1, d2, d3⟩ := cE_at (l := l.set a y) (i := a) (e := y) (by rw [List.getElem?_set]; simp [hi])
    rcases (show r = 0 ∨ r = 1 ∨ r = 2 by omega) with rfl | rfl | rfl
    · rw [if_neg (by omega), if_neg (by omega), if_pos (by omega)]; exact d1.symm
    · rw [if_neg (by omega), if_pos rfl]; exact d2.symm
    · rw [if_pos rfl]; exact d3.symm
  · obtain ⟨d1, d2, d3⟩ := cE_at (l := l.set i y) (i := a) (e := x) (by rw [List.getElem?_set, if_neg (fun z => e z.symm)]; exact hx)
    rw [if_neg (by omega), if_neg (by omega), if_neg (by omega)]
    rcases (show r = 0 ∨ r = 1 ∨ r = 2 by omega) with rfl | rfl | rfl
    · exact c1.trans d1.symm
    · exact c2.trans d2.symm
    · exact c3.trans d3.symm
theorem RowV.entsE {w : World} {g cap : Nat} {t : TypeId} {l : List Ent} (h : RowV w g t (l.length * 3) (cE l)) (hc : l.length ≤ cap) : Held (fun q => q = g) (fun u => EntsE u (.slice (some ⟨g, 0, none⟩) l.length cap) l) w := fun u e => by
  have h2 := h.of (e.2 g rfl h.lt)
  refine ⟨_, cap, g, 0, rfl, hc, fun _ => rfl, fun i x hi => ?_⟩
  have li := (List.getElem?_eq_some_iff.1 hi).1
  obtain ⟨g1, g2, g3⟩ := cE_at hi
  rw [Nat.zero_add, h2.cell (by omega), h2.cell (by omega), h2.cell (by omega)]
  exact ⟨by rw [g1], by rw [g2], by rw [g3]⟩
/-- A bucket of a row that is known, with entries of its own. -/
structure InB (w : World) (Bd g n p gp cap : Nat) (V : Nat → Value) (AG : Nat → Int) (es : List Ent) : Prop where
  row : RowK w g n V AG
  val : V p = .slice (some ⟨gp, 0, none⟩) es.length cap
  cp : es.length ≤ cap
  ents : RowV w gp 76 (es.length * 3) (cE es)
  ne : g ≠ gp
  bg : Bd ≤ g
  bp : Bd ≤ gp
  pn : p < n
  low : Bd ≤ w.heap.size
theorem InB.of {w w' : World} {Bd g n p gp cap : Nat} {V : Nat → Value} {AG : Nat → Int} {es : List Ent} (h : InB w Bd g n p gp cap V AG es) (e1 : w'.heap[g]? = w.heap[g]?) (e2 : w'.heap[gp]? = w.heap[gp]?) (z : w.heap.size ≤ w'.heap.size) : InB w' Bd g n p gp cap V AG es :=
  ⟨h.row.of e1, h.val, h.cp, h.ents.of e2, h.ne, h.bg, h.bp, h.pn, by have := h.low; omega⟩
theorem InB.since {w w' : World} {Bd g n p gp cap : Nat} {V : Nat → Value} {AG : Nat → Int} {es : List Ent} (h : InB w Bd g n p gp cap V AG es) (b : Below w.heap.size w w') : InB w' Bd g n p gp cap V AG es :=
  h.of (b.block g h.row.lt) (b.block gp h.ents.lt) b.size
theorem InB.setA {w : World} {Bd g n p gp cap : Nat} {V : Nat → Value} {AG : Nat → Int} {es : List Ent} (h : InB w Bd g n p gp cap V AG es) (x : Int) : InB (w.setCell ⟨g, p * 2 + 1, none⟩ (.int .i64 x)) Bd g n p gp cap V (fun j => if j = p then x else AG j) es :=
  ⟨h.row.setA p x, h.val, h.cp, h.ents.of (Below.heap_setCell _ _ _ _ (fun (z : gp = g) => h.ne z.symm)), h.ne, h.bg, h.bp, h.pn, by have := h.low; rw [size_setCell]; omega⟩
theorem InB.setV {w : World} {Bd g n p gp cap : Nat} {V : Nat → Value} {AG : Nat → Int} {es : List Ent} (h : InB w Bd g n p gp cap V AG es) {i : Nat} {k : ByteArray} {v : Int} {f : Bool} (hi : es[i]? = some ⟨k, v, f⟩) (x : Int) : InB (w.setCell ⟨gp, i * 3 + 1, none⟩ (.int .i64 x)) Bd g n p gp cap V AG (es.set i ⟨k, x, f⟩) := by
  have il := (List.getElem?_eq_some_iff.1 hi).1
  obtain ⟨c1, c2, c3⟩ := cE_at hi
  refine ⟨h.row.of (Below.heap_setCell _ _ _ _ h.ne), by rw [List.length_set]; exact h.val, by rw [List.length_set]; exact h.cp, ?_, h.ne, h.bg, h.bp, h.pn, by have := h.low; rw [size_setCell]; omega⟩
  rw [List.length_set]
  refine RowV.congr (h.ents.set (i * 3 + 1) (.int .i64 x)) fun j hj => ?_
  rw [← cE_set (y := ⟨k, x, f⟩) il hj]
  by_cases e1 : j = i * 3 + 1
  · rw [if_pos e1, if_neg (by omega), if_pos e1]
  · rw [if_neg e1, if_neg e1]
    by_cases e2 : j = i * 3 + 2
    · rw [if_pos e2, e2]; exact c3
    · rw [if_neg e2]
      by_cases e3 : j = i * 3
      · rw [if_pos e3, e3]; exact c1
      · rw [if_neg e3]
theorem InB.setE {w : World} {Bd g n p gp cap : Nat} {V : Nat → Value} {AG : Nat → Int} {es : List Ent} (h : InB w Bd g n p gp cap V AG es) {i : Nat} (il : i < es.length) (k : ByteArray) (v : Int) (f : Bool) : InB (((w.setCell ⟨gp, i * 3, none⟩ (.string k)).setCell ⟨gp, i * 3 + 1, none⟩ (.int .i64 v)).setCell ⟨gp, i * 3 + 2, none⟩ (.bool f)) Bd g n p gp cap V AG (es.set i ⟨k, v, f⟩) := by
  have far : ∀ (u : World) (j : Nat) (y : Value), (u.setCell ⟨gp, j, none⟩ y).heap[g]? = u.heap[g]? := fun u j y => Below.heap_setCell _ _ _ _ h.ne
  refine ⟨h.row.of ((far _ _ _).trans ((far _ _ _).trans (far _ _ _))), by rw [List.length_set]; exact h.val, by rw [List.length_set]; exact h.cp, ?_, h.ne, h.bg, h.bp, h.pn, by have := h.low; rw [size_setCell, size_setCell, size_setCell]; omega⟩
  rw [List.length_set]
  exact RowV.congr (((h.ents.set (i * 3) (.string k)).set (i * 3 + 1) (.int .i64 v)).set (i * 3 + 2) (.bool f)) fun j hj => cE_set (y := ⟨k, v, f⟩) il hj
theorem InB.cells {w : World} {Bd g n p gp cap : Nat} {V : Nat → Value} {AG : Nat → Int} {es : List Ent} (h : InB w Bd g n p gp cap V AG es) (i : Nat) (e : Ent) (he : es[i]? = some e) : w.cell? ⟨gp, 0 + i * 3, none⟩ = some (.string e.k) ∧ w.cell? ⟨gp, 0 + i * 3 + 1, none⟩ = some (.int .i64 e.v) ∧ w.cell? ⟨gp, 0 + i * 3 + 2, none⟩ = some (.bool e.f) := by
  have li := (List.getElem?_eq_some_iff.1 he).1
  obtain ⟨g1, g2, g3⟩ := cE_at he
  rw [Nat.zero_add, h.ents.cell (by omega), h.ents.cell (by omega), h.ents.cell (by omega)]
  exact ⟨by rw [g1], by rw [g2], by rw [g3]⟩
/-- All but two blocks stand. -/
def Far (w w' : World) (Bd g gp : Nat) : Prop := Same (fun q => q ≠ g ∧ q ≠ gp) w w' ∧ Below Bd w w'
theorem Far.mk' {w u : World} {Bd g gp : Nat} (b : Below w.heap.size w u) (z : Bd ≤ w.heap.size) : Far w u Bd g gp := ⟨Same.below b, b.mono z⟩
theorem Far.drew {w u : World} {Bd g gp : Nat} (h : Far w u Bd g gp) : Far w u.drew Bd g gp := ⟨⟨h.1.1, h.1.2⟩, h.2.drew⟩
theorem Far.since {w u w' : World} {Bd g gp : Nat} (h : Far w u Bd g gp) (b : Below u.heap.size u w') (z : Bd ≤ u.heap.size) : Far w w' Bd g gp := ⟨h.1.trans (Same.below b), h.2.trans (b.mono z)⟩
theorem Far.set {w u : World} {Bd g gp : Nat} (h : Far w u Bd g gp) {a : Addr} (e : a.block = g ∨ a.block = gp) (z1 : Bd ≤ g) (z2 : Bd ≤ gp) (v : Value) : Far w (u.setCell a v) Bd g gp :=
  ⟨h.1.trans (Same.setCell (fun d => e.elim d.1 d.2) v), h.2.setCell (by rcases e with e | e <;> rw [e] <;> assumption) v⟩
theorem Far.put {w u : World} {Bd g gp R : Nat} (h : Far w u Bd g gp) (r : w.heap.size ≤ R) (z : Bd ≤ R) (x y : Value) : Far w (eput2 u R x y) Bd g gp :=
  ⟨⟨by have := h.1.1; unfold eput2; rw [size_setCell, size_setCell]; exact this, fun q d hq => (eput2_heap _ _ _ _ q (by omega)).trans (h.1.2 q d hq)⟩, eput2_below h.2 z _ _⟩
set_option maxHeartbeats 3200000 in
theorem edispute_out (w : World) (Bd g n p gp cap : Nat) (V : Nat → Value) (AG : Nat → Int) (es : List Ent) (k : ByteArray) (v : Int) (f : Bool) (t : ByteArray) (d : Int) (d0 : Bool) (votes : Int) (h : InB w Bd g n p gp cap V AG es) (hlow : es[lowAt es]? = some ⟨t, d, d0⟩) (el : es.length ≤ 1000) (v1 : 1 ≤ votes) (v2 : votes ≤ 64) (dd1 : 1 ≤ d) (dd2 : d ≤ 1099511627776) (cond : AG p < votes * d) :
    Calls Try.prog 56 #[.pointer (some ⟨g, p * 2, none⟩), .agg #[.string k, .int .i64 v, .bool f], .int .i64 votes] w fun e w' => e = .returned (.agg #[.string k, .int .i64 v]) ∧ Below w.heap.size w w' := by
  have BX : Hid (Below w.heap.size w ((w.alloc (.cells #[.string k, .int .i64 v, .bool f] 76)).alloc (.cells #[.string ⟨#[]⟩, .int .i64 0] 68))) := (bel_alloc _ _).alloc (by simp) _
  have KX : Hid (Blk ((w.alloc (.cells #[.string k, .int .i64 v, .bool f] 76)).alloc (.cells #[.string ⟨#[]⟩, .int .i64 0] 68)) w.heap.size 76 #[.string k, .int .i64 v, .bool f]) := (Blk.new _ _ _).alloc _
  have KR : Hid (Blk ((w.alloc (.cells #[.string k, .int .i64 v, .bool f] 76)).alloc (.cells #[.string ⟨#[]⟩, .int .i64 0] 68)) (w.heap.size + 1) 68 #[.string ⟨#[]⟩, .int .i64 0]) := by
    have e := Blk.new (w.alloc (.cells #[.string k, .int .i64 v, .bool f] 76)) 68 #[.string ⟨#[]⟩, .int .i64 0]
    simp only [World.size_alloc] at e
    exact e
  have ml : lowAt es < es.length := (List.getElem?_eq_some_iff.1 hlow).1
  have IX : Hid (InB ((w.alloc (.cells #[.string k, .int .i64 v, .bool f] 76)).alloc (.cells #[.string ⟨#[]⟩, .int .i64 0] 68)) Bd g n p gp cap V AG es) := h.since BX.out
  have HL := hidE hlow
  have gl := hidE (And.intro h.row.lt (And.intro h.ents.lt h.low))
  obtain ⟨m, hm⟩ : ∃ m, m = es.length := ⟨_, rfl⟩
  obtain ⟨q, hq⟩ : ∃ q, q = lowAt es := ⟨_, rfl⟩
  obtain ⟨ag, hag⟩ : ∃ ag, ag = AG p := ⟨_, rfl⟩
  have HMQ : Hid (m = es.length ∧ q = lowAt es ∧ ag = AG p) := ⟨hm, hq, hag⟩
  rw [← hag] at cond
  rw [← hm, ← hq] at ml
  have mm : votes * d ≤ 64 * d := Int.mul_le_mul_of_nonneg_right v2 (by omega)
  have m0 : 0 ≤ votes * d := Int.mul_nonneg (by omega) (by omega)
  have wm : IntKind.i64.wrap (votes * d) = votes * d := by rw [IntKind.wrap_i64]; omega
  have bq : (q : Int) < (m : Int) := by omega
  have bq0 : (0 : Int) ≤ (q : Int) := by omega
  have EL := hidE el
  clear h hlow hm hq hag mm m0 el
  have CW := hidE fun u (b : Below ((w.alloc (.cells #[.string k, .int .i64 v, .bool f] 76)).alloc (.cells #[.string ⟨#[]⟩, .int .i64 0] 68)).heap.size ((w.alloc (.cells #[.string k, .int .i64 v, .bool f] 76)).alloc (.cells #[.string ⟨#[]⟩, .int .i64 0] 68)) u) => eweakest_any u es gp 0 m cap HMQ.out.1 (by omega) (by have := HMQ.out.1; have := EL.out; omega) (by have := HMQ.out.1; have := IX.out.cp; omega) (IX.out.since b).cells
  have y0 : ((w.alloc (.cells #[.string k, .int .i64 v, .bool f] 76)).alloc (.cells #[.string ⟨#[]⟩, .int .i64 0] 68)).cell? ⟨g, p * 2, none⟩ = some (.slice (some ⟨gp, 0, none⟩) m cap) := by rw [HMQ.out.1, ← IX.out.val]; exact IX.out.row.ents IX.out.pn
  go_enter Try.func56, Try.ntmps56
  go_wp2_with fail
  generalize ((w.alloc (.cells #[.string k, .int .i64 v, .bool f] 76)).alloc (.cells #[.string ⟨#[]⟩, .int .i64 0] 68)) = X at BX KX KR IX CW y0 ⊢
  rw [← HMQ.out.2.1] at CW
  refine (CW.out _ (Below.refl _ _)).mono ?_
  rintro e u1 ⟨rfl, b1⟩
  have I1 := hidE (IX.out.since b1)
  have K1 := hidE (KX.out.since b1)
  have R1 := hidE (KR.out.since b1)
  have B1 := hidE (bel_trans BX.out b1)
  clear b1 BX KX KR IX CW y0
  have HC : Hid (es[q]? = some ⟨t, d, d0⟩) := by rw [HMQ.out.2.1]; exact HL.out
  have y0 : u1.cell? ⟨g, p * 2, none⟩ = some (.slice (some ⟨gp, 0, none⟩) m cap) := by rw [HMQ.out.1, ← I1.out.val]; exact I1.out.row.ents I1.out.pn
  obtain ⟨c0, c1, c2⟩ := I1.out.cells q _ HC.out
  rw [Nat.zero_add] at c0 c1 c2
  simp only at c0 c1 c2
  have BA : Hid (Below u1.heap.size u1 (u1.alloc (.cells #[.string t, .int .i64 d, .bool d0] 76))) := bel_alloc _ _
  have KA : Hid (Blk (u1.alloc (.cells #[.string t, .int .i64 d, .bool d0] 76)) u1.heap.size 76 #[.string t, .int .i64 d, .bool d0]) := Blk.new _ _ _
  go_upto_region 3 with fail
  have I2 := hidE (I1.out.since BA.out)
  have K2 := hidE (K1.out.since BA.out)
  have R2 := hidE (R1.out.since BA.out)
  have B2 := hidE (bel_trans B1.out BA.out)
  have GA : Hid (w.heap.size ≤ u1.heap.size ∧ w.heap.size + 1 < u1.heap.size) := ⟨B1.out.size, R1.out.lt⟩
  clear I1 K1 R1 B1 BA y0 c0 c1 c2
  generalize u1.alloc (.cells #[.string t, .int .i64 d, .bool d0] 76) = Y at KA I2 K2 R2 B2 ⊢
  generalize u1.heap.size = ga at KA GA ⊢
  have y0 : Y.cell? ⟨g, p * 2 + 1, none⟩ = some (.int .i64 ag) := by rw [HMQ.out.2.2]; exact I2.out.row.ag I2.out.pn
  have y1 : Y.cell? ⟨ga, 1, none⟩ = some (.int .i64 d) := KA.out.cell 1
  go_quiet (fail)
  have I3 : Hid (InB (Y.drewN nq) Bd g n p gp cap V AG es) := I2.out.of rfl rfl (Nat.le_refl _)
  have K3 : Hid (Blk (Y.drewN nq) w.heap.size 76 #[.string k, .int .i64 v, .bool f]) := K2.out
  have A3 : Hid (Blk (Y.drewN nq) ga 76 #[.string t, .int .i64 d, .bool d0]) := KA.out
  have R3 : Hid (Blk (Y.drewN nq) (w.heap.size + 1) 68 #[.string ⟨#[]⟩, .int .i64 0]) := R2.out
  have B3 : Hid (Below w.heap.size w (Y.drewN nq)) := below_drewN B2.out nq
  clear I2 K2 R2 B2 KA y0 y1
  generalize Y.drewN nq = Z at I3 K3 A3 R3 B3 ⊢
  have k0 : Z.cell? ⟨w.heap.size, 0, none⟩ = some (.string k) := K3.out.cell 0
  have k1 : Z.cell? ⟨w.heap.size, 1, none⟩ = some (.int .i64 v) := K3.out.cell 1
  have k2 : Z.cell? ⟨w.heap.size, 2, none⟩ = some (.bool f) := K3.out.cell 2
  go_wp2_with fail
  refine (eitem_any Z k v f).mono ?_
  rintro e u3 ⟨rfl, b3⟩
  have R4 := hidE (R3.out.since b3)
  have B4 := hidE (bel_trans B3.out b3)
  clear b3 k0 k1 k2
  have r0 : u3.cell? ⟨w.heap.size + 1, 0, none⟩ = some (.string ⟨#[]⟩) := R4.out.cell 0
  have r1 : u3.cell? ⟨w.heap.size + 1, 1, none⟩ = some (.int .i64 0) := R4.out.cell 1
  have z0 := R4.out.frozen 0
  have z1 := R4.out.frozen 1
  go_wp2_with fail
  refine bodyPost_ret (v := .agg #[.string k, .int .i64 v]) ?_ rfl ?_
  rotate_left
  · exact ⟨rfl, eput2_below B4.out (by omega) _ _⟩
  have c3 := eput2_blk (t := 68) R4.out (.string k) (.int .i64 v)
  have c30 := c3.cell 0
  have c31 := c3.cell 1
  change (results _ _).run _ (eput2 u3 (w.heap.size + 1) (.string k) (.int .i64 v)) = .ok _ (eput2 u3 (w.heap.size + 1) (.string k) (.int .i64 v))
  generalize eput2 u3 (w.heap.size + 1) (.string k) (.int .i64 v) = W5 at c30 c31
  simp [results, Try.results56, go_sem, c30, c31]
set_option maxHeartbeats 3200000 in
theorem edispute_in (w : World) (Bd g n p gp cap : Nat) (V : Nat → Value) (AG : Nat → Int) (es : List Ent) (k : ByteArray) (v : Int) (f : Bool) (t : ByteArray) (d : Int) (d0 : Bool) (votes : Int) (h : InB w Bd g n p gp cap V AG es) (hlow : es[lowAt es]? = some ⟨t, d, d0⟩) (el : es.length ≤ 1000) (v1 : 1 ≤ votes) (v2 : votes ≤ 64) (dd1 : 1 ≤ d) (dd2 : d ≤ 1099511627776) (cond : ¬ AG p < votes * d) :
    Calls Try.prog 56 #[.pointer (some ⟨g, p * 2, none⟩), .agg #[.string k, .int .i64 v, .bool f], .int .i64 votes] w fun e w' => e = .returned (.agg #[.string t, .int .i64 d]) ∧ InB w' Bd g n p gp cap V (fun j => if j = p then 0 else AG j) (es.set (lowAt es) ⟨k, v, f⟩) ∧ Far w w' Bd g gp := by
  have BX : Hid (Below w.heap.size w ((w.alloc (.cells #[.string k, .int .i64 v, .bool f] 76)).alloc (.cells #[.string ⟨#[]⟩, .int .i64 0] 68))) := (bel_alloc _ _).alloc (by simp) _
  have KX : Hid (Blk ((w.alloc (.cells #[.string k, .int .i64 v, .bool f] 76)).alloc (.cells #[.string ⟨#[]⟩, .int .i64 0] 68)) w.heap.size 76 #[.string k, .int .i64 v, .bool f]) := (Blk.new _ _ _).alloc _
  have KR : Hid (Blk ((w.alloc (.cells #[.string k, .int .i64 v, .bool f] 76)).alloc (.cells #[.string ⟨#[]⟩, .int .i64 0] 68)) (w.heap.size + 1) 68 #[.string ⟨#[]⟩, .int .i64 0]) := by
    have e := Blk.new (w.alloc (.cells #[.string k, .int .i64 v, .bool f] 76)) 68 #[.string ⟨#[]⟩, .int .i64 0]
    simp only [World.size_alloc] at e
    exact e
  have ml : lowAt es < es.length := (List.getElem?_eq_some_iff.1 hlow).1
  have IX : Hid (InB ((w.alloc (.cells #[.string k, .int .i64 v, .bool f] 76)).alloc (.cells #[.string ⟨#[]⟩, .int .i64 0] 68)) Bd g n p gp cap V AG es) := h.since BX.out
  have HL := hidE hlow
  have gl := hidE (And.intro h.row.lt (And.intro h.ents.lt h.low))
  obtain ⟨m, hm⟩ : ∃ m, m = es.length := ⟨_, rfl⟩
  obtain ⟨q, hq⟩ : ∃ q, q = lowAt es := ⟨_, rfl⟩
  obtain ⟨ag, hag⟩ : ∃ ag, ag = AG p := ⟨_, rfl⟩
  have HMQ : Hid (m = es.length ∧ q = lowAt es ∧ ag = AG p) := ⟨hm, hq, hag⟩
  rw [← hag] at cond
  rw [← hm, ← hq] at ml
  have mm : votes * d ≤ 64 * d := Int.mul_le_mul_of_nonneg_right v2 (by omega)
  have m0 : 0 ≤ votes * d := Int.mul_nonneg (by omega) (by omega)
  have wm : IntKind.i64.wrap (votes * d) = votes * d := by rw [IntKind.wrap_i64]; omega
  have bq : (q : Int) < (m : Int) := by omega
  have bq0 : (0 : Int) ≤ (q : Int) := by omega
  have EL := hidE el
  clear h hlow hm hq hag mm m0 el
  have CW := hidE fun u (b : Below ((w.alloc (.cells #[.string k, .int .i64 v, .bool f] 76)).alloc (.cells #[.string ⟨#[]⟩, .int .i64 0] 68)).heap.size ((w.alloc (.cells #[.string k, .int .i64 v, .bool f] 76)).alloc (.cells #[.string ⟨#[]⟩, .int .i64 0] 68)) u) => eweakest_any u es gp 0 m cap HMQ.out.1 (by omega) (by have := HMQ.out.1; have := EL.out; omega) (by have := HMQ.out.1; have := IX.out.cp; omega) (IX.out.since b).cells
  have y0 : ((w.alloc (.cells #[.string k, .int .i64 v, .bool f] 76)).alloc (.cells #[.string ⟨#[]⟩, .int .i64 0] 68)).cell? ⟨g, p * 2, none⟩ = some (.slice (some ⟨gp, 0, none⟩) m cap) := by rw [HMQ.out.1, ← IX.out.val]; exact IX.out.row.ents IX.out.pn
  go_enter Try.func56, Try.ntmps56
  go_wp2_with fail
  generalize ((w.alloc (.cells #[.string k, .int .i64 v, .bool f] 76)).alloc (.cells #[.string ⟨#[]⟩, .int .i64 0] 68)) = X at BX KX KR IX CW y0 ⊢
  rw [← HMQ.out.2.1] at CW
  refine (CW.out _ (Below.refl _ _)).mono ?_
  rintro e u1 ⟨rfl, b1⟩
  have I1 := hidE (IX.out.since b1)
  have K1 := hidE (KX.out.since b1)
  have R1 := hidE (KR.out.since b1)
  have B1 := hidE (bel_trans BX.out b1)
  clear b1 BX KX KR IX CW y0
  have HC : Hid (es[q]? = some ⟨t, d, d0⟩) := by rw [HMQ.out.2.1]; exact HL.out
  have y0 : u1.cell? ⟨g, p * 2, none⟩ = some (.slice (some ⟨gp, 0, none⟩) m cap) := by rw [HMQ.out.1, ← I1.out.val]; exact I1.out.row.ents I1.out.pn
  obtain ⟨c0, c1, c2⟩ := I1.out.cells q _ HC.out
  rw [Nat.zero_add] at c0 c1 c2
  simp only at c0 c1 c2
  have BA : Hid (Below u1.heap.size u1 (u1.alloc (.cells #[.string t, .int .i64 d, .bool d0] 76))) := bel_alloc _ _
  have KA : Hid (Blk (u1.alloc (.cells #[.string t, .int .i64 d, .bool d0] 76)) u1.heap.size 76 #[.string t, .int .i64 d, .bool d0]) := Blk.new _ _ _
  go_upto_region 3 with fail
  have I2 := hidE (I1.out.since BA.out)
  have K2 := hidE (K1.out.since BA.out)
  have R2 := hidE (R1.out.since BA.out)
  have B2 := hidE (bel_trans B1.out BA.out)
  have GA : Hid (w.heap.size ≤ u1.heap.size ∧ w.heap.size + 1 < u1.heap.size) := ⟨B1.out.size, R1.out.lt⟩
  clear I1 K1 R1 B1 BA y0 c0 c1 c2
  generalize u1.alloc (.cells #[.string t, .int .i64 d, .bool d0] 76) = Y at KA I2 K2 R2 B2 ⊢
  generalize u1.heap.size = ga at KA GA ⊢
  have y0 : Y.cell? ⟨g, p * 2 + 1, none⟩ = some (.int .i64 ag) := by rw [HMQ.out.2.2]; exact I2.out.row.ag I2.out.pn
  have y1 : Y.cell? ⟨ga, 1, none⟩ = some (.int .i64 d) := KA.out.cell 1
  go_quiet (fail)
  have I3 : Hid (InB (Y.drewN nq) Bd g n p gp cap V AG es) := I2.out.of rfl rfl (Nat.le_refl _)
  have K3 : Hid (Blk (Y.drewN nq) w.heap.size 76 #[.string k, .int .i64 v, .bool f]) := K2.out
  have A3 : Hid (Blk (Y.drewN nq) ga 76 #[.string t, .int .i64 d, .bool d0]) := KA.out
  have R3 : Hid (Blk (Y.drewN nq) (w.heap.size + 1) 68 #[.string ⟨#[]⟩, .int .i64 0]) := R2.out
  have B3 : Hid (Below w.heap.size w (Y.drewN nq)) := below_drewN B2.out nq
  clear I2 K2 R2 B2 KA y0 y1
  generalize Y.drewN nq = Z at I3 K3 A3 R3 B3 ⊢
  have k0 : Z.cell? ⟨w.heap.size, 0, none⟩ = some (.string k) := K3.out.cell 0
  have k1 : Z.cell? ⟨w.heap.size, 1, none⟩ = some (.int .i64 v) := K3.out.cell 1
  have k2 : Z.cell? ⟨w.heap.size, 2, none⟩ = some (.bool f) := K3.out.cell 2
  have y0 : Z.cell? ⟨g, p * 2, none⟩ = some (.slice (some ⟨gp, 0, none⟩) m cap) := by rw [HMQ.out.1, ← I3.out.val]; exact I3.out.row.ents I3.out.pn
  obtain ⟨c0, c1, c2⟩ := I3.out.cells q _ HC.out
  rw [Nat.zero_add] at c0 c1 c2
  simp only at c0 c1 c2
  have f0 := I3.out.ents.frozen (q * 3)
  have f1 := I3.out.ents.frozen (q * 3 + 1)
  have f2 := I3.out.ents.frozen (q * 3 + 2)
  go_wp2_with fail
  go_region_with fail
  all_goals
    have il : q < es.length := by rw [← HMQ.out.1]; exact ml
    have I4 : Hid (InB (((Z.setCell ⟨gp, q * 3, none⟩ (.string k)).setCell ⟨gp, q * 3 + 1, none⟩ (.int .i64 v)).setCell ⟨gp, q * 3 + 2, none⟩ (.bool f)).drew Bd g n p gp cap V AG (es.set q ⟨k, v, f⟩)) := (I3.out.setE il k v f).of rfl rfl (Nat.le_refl _)
    have F4 : Hid (Far w (((Z.setCell ⟨gp, q * 3, none⟩ (.string k)).setCell ⟨gp, q * 3 + 1, none⟩ (.int .i64 v)).setCell ⟨gp, q * 3 + 2, none⟩ (.bool f)).drew Bd g gp) := ((((Far.mk' B3.out gl.out.2.2).set (a := ⟨gp, q * 3, none⟩) (Or.inr rfl) I3.out.bg I3.out.bp _).set (a := ⟨gp, q * 3 + 1, none⟩) (Or.inr rfl) I3.out.bg I3.out.bp _).set (a := ⟨gp, q * 3 + 2, none⟩) (Or.inr rfl) I3.out.bg I3.out.bp _).drew
    have A4 : Hid (Blk (((Z.setCell ⟨gp, q * 3, none⟩ (.string k)).setCell ⟨gp, q * 3 + 1, none⟩ (.int .i64 v)).setCell ⟨gp, q * 3 + 2, none⟩ (.bool f)).drew ga 76 #[.string t, .int .i64 d, .bool d0]) := by
      have ne : ga ≠ gp := by have := gl.out.2.1; have := GA.out.1; omega
      exact (((A3.out.other (a := ⟨gp, q * 3, none⟩) ne _).other (a := ⟨gp, q * 3 + 1, none⟩) ne _).other (a := ⟨gp, q * 3 + 2, none⟩) ne _).drew
    have R4 : Hid (Blk (((Z.setCell ⟨gp, q * 3, none⟩ (.string k)).setCell ⟨gp, q * 3 + 1, none⟩ (.int .i64 v)).setCell ⟨gp, q * 3 + 2, none⟩ (.bool f)).drew (w.heap.size + 1) 68 #[.string ⟨#[]⟩, .int .i64 0]) := by
      have ne : w.heap.size + 1 ≠ gp := by have := gl.out.2.1; omega
      exact (((R3.out.other (a := ⟨gp, q * 3, none⟩) ne _).other (a := ⟨gp, q * 3 + 1, none⟩) ne _).other (a := ⟨gp, q * 3 + 2, none⟩) ne _).drew
    clear y0 c0 c1 c2 f0 f1 f2 k0 k1 k2 A3 R3 K3 B3
    generalize (((Z.setCell ⟨gp, q * 3, none⟩ (.string k)).setCell ⟨gp, q * 3 + 1, none⟩ (.int .i64 v)).setCell ⟨gp, q * 3 + 2, none⟩ (.bool f)).drew = Y4 at I4 F4 A4 R4 ⊢
    have y0 : Y4.cell? ⟨g, p * 2 + 1, none⟩ = some (.int .i64 ag) := by rw [HMQ.out.2.2]; exact I4.out.row.ag I4.out.pn
    have f0 := I4.out.row.frozen (p * 2 + 1)
    have I5 := hidE (I4.out.setA 0)
    have F5 := hidE (F4.out.set (a := ⟨g, p * 2 + 1, none⟩) (Or.inl rfl) I4.out.bg I4.out.bp (.int .i64 0))
    have A5 := hidE (A4.out.other (a := ⟨g, p * 2 + 1, none⟩) (by show ga ≠ g; have := gl.out.1; have := GA.out.1; omega) (.int .i64 0))
    have R5 := hidE (R4.out.other (a := ⟨g, p * 2 + 1, none⟩) (by show w.heap.size + 1 ≠ g; have := gl.out.1; omega) (.int .i64 0))
    have a0 : (Y4.setCell ⟨g, p * 2 + 1, none⟩ (.int .i64 0)).cell? ⟨ga, 0, none⟩ = some (.string t) := A5.out.cell 0
    have a1 : (Y4.setCell ⟨g, p * 2 + 1, none⟩ (.int .i64 0)).cell? ⟨ga, 1, none⟩ = some (.int .i64 d) := A5.out.cell 1
    have a2 : (Y4.setCell ⟨g, p * 2 + 1, none⟩ (.int .i64 0)).cell? ⟨ga, 2, none⟩ = some (.bool d0) := A5.out.cell 2
    clear I4 F4 A4 R4
    go_wp2_with fail
    clear y0 f0
    generalize Y4.setCell ⟨g, p * 2 + 1, none⟩ (.int .i64 0) = Y5 at I5 F5 A5 R5 a0 a1 a2 ⊢
    refine (eitem_any Y5 t d d0).mono ?_
    rintro e u3 ⟨rfl, b3⟩
    have R6 := hidE (R5.out.since b3)
    have I6 := hidE (I5.out.since b3)
    have F6 := hidE (F5.out.since b3 I5.out.low)
    clear b3 a0 a1 a2 I5 F5 A5 R5
    have r0 : u3.cell? ⟨w.heap.size + 1, 0, none⟩ = some (.string ⟨#[]⟩) := R6.out.cell 0
    have r1 : u3.cell? ⟨w.heap.size + 1, 1, none⟩ = some (.int .i64 0) := R6.out.cell 1
    have z0 := R6.out.frozen 0
    have z1 := R6.out.frozen 1
    go_wp2_with fail
    refine bodyPost_ret (v := .agg #[.string t, .int .i64 d]) ?_ rfl ?_
    rotate_left
    · exact ⟨rfl, by rw [← HMQ.out.2.1]; exact I6.out.of (eput2_heap _ _ _ _ _ (by have := gl.out.1; omega)) (eput2_heap _ _ _ _ _ (by have := gl.out.2.1; omega)) (Nat.le_of_eq (e2size _ _ _ _).symm), F6.out.put (by omega) (by have := gl.out.2.2; omega) _ _⟩
    have c3 := eput2_blk (t := 68) R6.out (.string t) (.int .i64 d)
    have c30 := c3.cell 0
    have c31 := c3.cell 1
    change (results _ _).run _ (eput2 u3 (w.heap.size + 1) (.string t) (.int .i64 d)) = .ok _ (eput2 u3 (w.heap.size + 1) (.string t) (.int .i64 d))
    generalize eput2 u3 (w.heap.size + 1) (.string t) (.int .i64 d) = W5 at c30 c31
    simp [results, Try.results56, go_sem, c30, c31]
/-- What a key that came has done to its bucket: the row with one bucket otherwise, its entries in a block of the call's own. -/
def CameP (w w' : World) (Bd g n p : Nat) (V : Nat → Value) (AG : Nat → Int) (b : Bkt) : Prop :=
  ∃ (V' : Nat → Value) (AG' : Nat → Int) (gp : Nat), RowK w' g n V' AG' ∧ AG' p = b.ag ∧ (∀ i, i ≠ p → V' i = V i ∧ AG' i = AG i) ∧ Bd ≤ gp ∧ Held (fun q => q = gp) (fun u => EntsE u (V' p) b.es) w' ∧ Same (fun q => q ≠ g ∧ some q ≠ (V p).ownBlock) w w' ∧ Below Bd w w'
theorem InB.came {w w' : World} {Bd g n p gp cap : Nat} {V : Nat → Value} {AG AG' : Nat → Int} {es : List Ent} (h : InB w' Bd g n p gp cap V AG' es) (f : Far w w' Bd g gp) (a : ∀ i, i ≠ p → AG' i = AG i) (x : Int) (hx : AG' p = x) : CameP w w' Bd g n p V AG ⟨es, x⟩ := by
  refine ⟨V, AG', gp, h.row, hx, fun i hi => ⟨rfl, a i hi⟩, h.bp, ?_, f.1.mono fun q _ d => ⟨d.1, fun z => d.2 (by rw [h.val, z]; rfl)⟩, f.2⟩
  rw [h.val]
  exact h.ents.entsE h.cp
theorem InB.here {w u : World} {Bd g n p gp cap : Nat} {V : Nat → Value} {AG : Nat → Int} {es : List Ent} (h : InB w Bd g n p gp cap V AG es) (b : Below w.heap.size w u) : EntsE u (V p) es := by
  rw [h.val]
  exact ((h.since b).ents.entsE h.cp).at
set_option maxHeartbeats 3200000 in
theorem ecome_at (w : World) (Bd g n p cb : Nat) (V : Nat → Value) (AG : Nat → Int) (es : List Ent) (S room votes LS LM : Int) (rv : Value) (s : ByteArray) (pn : p < n) (nc : n ≤ cb) (el : es.length ≤ 1000) (PC : Hid (∀ u, Below w.heap.size w u → Calls Try.prog 53 #[.agg #[.int .u64 S, .int .i64 room, .int .i64 votes, .slice (some ⟨g, 0, none⟩) n cb, .int .u64 LS, .int .i64 LM, rv], .string s] u fun e w' => e = .returned (.int .i64 (p : Int)) ∧ Below u.heap.size u w')) (gp cap : Nat) (h : InB w Bd g n p gp cap V AG es) (i : Nat) (k : ByteArray) (v : Int) (f : Bool) (ha : atE es s = some i) (hi : es[i]? = some ⟨k, v, f⟩) (v0 : 0 ≤ v) (v1 : v < 1099511627776) :
    Calls Try.prog 29 #[.agg #[.int .u64 S, .int .i64 room, .int .i64 votes, .slice (some ⟨g, 0, none⟩) n cb, .int .u64 LS, .int .i64 LM, rv], .string s] w fun e w' => e = .returned (.tuple #[.agg #[.string ⟨#[]⟩, .int .i64 0], .int .i64 0]) ∧ CameP w w' Bd g n p V AG ⟨es.set i ⟨k, v + 1, f⟩, AG p⟩ := by
  have IB := hidE h
  have gl := hidE (And.intro h.row.lt (And.intro h.ents.lt h.low))
  have EL := hidE el
  have EA := hidE fun u (b : Below w.heap.size w u) => efind_any u (V p) es s (h.here b) (by omega)
  rw [h.val] at EA
  have HVP := hidE h.val
  have RK := hidE h.row
  obtain ⟨m, hm⟩ : ∃ m, m = es.length := ⟨_, rfl⟩
  have HM := hidE hm
  rw [← hm] at EA HVP
  clear h hm el
  rw [atI_some ha] at EA
  have il : i < m := by rw [HM.out]; exact (List.getElem?_eq_some_iff.1 hi).1
  have bi : (i : Int) < (m : Int) := by omega
  have bi0 : (i : Int) ≥ 0 := by omega
  have bi1 : (0 : Int) ≤ (i : Int) := by omega
  have HI := hidE hi
  clear ha hi
  have BX : Hid (Below w.heap.size w ((w.alloc (.cells #[.int .u64 S, .int .i64 room, .int .i64 votes, .slice (some ⟨g, 0, none⟩) n cb, .int .u64 LS, .int .i64 LM, rv] 28)).alloc (.cells #[.string ⟨#[]⟩, .int .i64 0] 68))) := (bel_alloc _ _).alloc (by simp) _
  have KX : Hid (Blk ((w.alloc (.cells #[.int .u64 S, .int .i64 room, .int .i64 votes, .slice (some ⟨g, 0, none⟩) n cb, .int .u64 LS, .int .i64 LM, rv] 28)).alloc (.cells #[.string ⟨#[]⟩, .int .i64 0] 68)) w.heap.size 28 #[.int .u64 S, .int .i64 room, .int .i64 votes, .slice (some ⟨g, 0, none⟩) n cb, .int .u64 LS, .int .i64 LM, rv]) := (Blk.new _ _ _).alloc _
  have KR : Hid (Blk ((w.alloc (.cells #[.int .u64 S, .int .i64 room, .int .i64 votes, .slice (some ⟨g, 0, none⟩) n cb, .int .u64 LS, .int .i64 LM, rv] 28)).alloc (.cells #[.string ⟨#[]⟩, .int .i64 0] 68)) (w.heap.size + 1) 68 #[.string ⟨#[]⟩, .int .i64 0]) := by
    have e := Blk.new (w.alloc (.cells #[.int .u64 S, .int .i64 room, .int .i64 votes, .slice (some ⟨g, 0, none⟩) n cb, .int .u64 LS, .int .i64 LM, rv] 28)) 68 #[.string ⟨#[]⟩, .int .i64 0]
    simp only [World.size_alloc] at e
    exact e
  have pb : (p : Int) < (n : Int) := by omega
  have p0 : (0 : Int) ≤ (p : Int) := by omega
  go_enter Try.func29, Try.ntmps29
  go_wp2_with fail
  generalize ((w.alloc (.cells #[.int .u64 S, .int .i64 room, .int .i64 votes, .slice (some ⟨g, 0, none⟩) n cb, .int .u64 LS, .int .i64 LM, rv] 28)).alloc (.cells #[.string ⟨#[]⟩, .int .i64 0] 68)) = X at BX KX KR ⊢
  refine letterQ ?_
  intro QQ hQQ
  have Z0 : Hid (Below X.heap.size X X.drew) := (Below.refl _ _).drew
  refine wp_region_noPanic ?_
  refine wp_region_held_drew (S := fun w2 => Below X.heap.size X w2) (by kernel_rfl) Z0.out (fun hHeld => ?_)
  clear hHeld
  generalize X.drew = q0 at Z0 ⊢
  refine wpAnyH_take (i := 0) (v := ?_) rfl (by kernel_rfl) (by kernel_rfl) (by kernel_rfl) (fun _ _ _ h => h) (Or.inl ⟨by rfl, ?_⟩) Z0.out ?_
  rotate_left
  · intro wq hSw; go_simp; first | done | with_reducible rfl
  simp only [List.getElem_toArray, List.getElem_cons_zero, Act.put, List.setIfInBounds_toArray, List.set_cons_zero, List.set_cons_succ]
  refine wpAnyH_take (i := 1) (v := ?_) rfl (by kernel_rfl) (by kernel_rfl) (by kernel_rfl) (fun _ _ _ h => h) (Or.inl ⟨by rfl, ?_⟩) Z0.out ?_
  rotate_left
  · intro wq hSw; have cl0 := (KX.out.since hSw).cell 3; go_simp; first | done | with_reducible rfl
  simp only [List.getElem_toArray, List.getElem_cons_zero, List.getElem_cons_succ, Act.put, List.setIfInBounds_toArray, List.set_cons_zero, List.set_cons_succ]
  refine wpAnyH_take (i := 2) (v := ?_) rfl (by kernel_rfl) (by kernel_rfl) (by kernel_rfl) (fun _ _ _ h => h) (Or.inl ⟨by rfl, ?_⟩) Z0.out ?_
  rotate_left
  · intro wq hSw; have cl0 := (KX.out.since hSw).cell 0; have cl1 := (KX.out.since hSw).cell 1; have cl2 := (KX.out.since hSw).cell 2; have cl3 := (KX.out.since hSw).cell 3; have cl4 := (KX.out.since hSw).cell 4; have cl5 := (KX.out.since hSw).cell 5; have cl6 := (KX.out.since hSw).cell 6; go_simp; first | done | with_reducible rfl
  simp only [List.getElem_toArray, List.getElem_cons_zero, List.getElem_cons_succ, Act.put, List.setIfInBounds_toArray, List.set_cons_zero, List.set_cons_succ]
  refine wpAnyH_take (i := 3) (v := ?_) rfl (by kernel_rfl) (by kernel_rfl) (by kernel_rfl) (fun _ _ _ h => h) (Or.inl ⟨by rfl, ?_⟩) Z0.out ?_
  rotate_left
  · intro wq hSw; go_simp; first | done | with_reducible rfl
  simp only [List.getElem_toArray, List.getElem_cons_zero, List.getElem_cons_succ, Act.put, List.setIfInBounds_toArray, List.set_cons_zero, List.set_cons_succ]
  refine wpAnyH_ready (rs := [4]) (by kernel_rfl) (by simp) ?_
  refine AllReadyH.cons rfl (fun K0 hK0 => ?_) ?_
  rotate_left
  · exact AllReadyH.nil
  refine step_func 53 #[.agg #[.int .u64 S, .int .i64 room, .int .i64 votes, .slice (some ⟨g, 0, none⟩) n cb, .int .u64 LS, .int .i64 LM, rv], .string s] (by rfl) rfl (by simp [Act.eval]) (fun _ _ => by kernel_rfl) ?_
  refine (PC.out _ (bel_trans BX.out Z0.out)).mono ?_
  rintro e uw ⟨rfl, b1⟩
  have Z1 : Hid (Below X.heap.size X uw) := bel_trans Z0.out b1
  clear b1
  refine ⟨_, rfl, ?_⟩
  refine hK0.out _ _ (by exact Z1.out) (fun hHeld => ?_)
  clear hK0 K0 hHeld
  simp only [Act.put, List.setIfInBounds_toArray]
  refine wpAnyH_take (i := 5) (v := ?_) rfl (by kernel_rfl) (by kernel_rfl) (by kernel_rfl) (fun _ _ _ h => h) (Or.inl ⟨by rfl, ?_⟩) Z1.out ?_
  rotate_left
  · intro wq hSw; go_simp; first | done | with_reducible rfl
  simp only [List.getElem_toArray, List.getElem_cons_zero, List.getElem_cons_succ, Act.put, List.setIfInBounds_toArray, List.set_cons_zero, List.set_cons_succ]
  refine wpAnyH_take (i := 6) (v := ?_) rfl (by kernel_rfl) (by kernel_rfl) (by kernel_rfl) (fun _ _ _ h => h) (Or.inl ⟨by rfl, ?_⟩) Z1.out ?_
  rotate_left
  · intro wq hSw; go_simp; first | done | with_reducible rfl
  simp only [List.getElem_toArray, List.getElem_cons_zero, List.getElem_cons_succ, Act.put, List.setIfInBounds_toArray, List.set_cons_zero, List.set_cons_succ]
  refine wpAnyH_done (by kernel_rfl) ?_ _
  refine NoPanic.normal ?_
  refine hQQ.out _ _ ?_
  clear hQQ
  have y0 : uw.cell? ⟨g, p * 2, none⟩ = some (.slice (some ⟨gp, 0, none⟩) m cap) := by rw [← HVP.out]; exact (RK.out.since (bel_trans BX.out Z1.out)).ents pn
  go_wp2_with fail
  refine (EA.out _ (bel_trans BX.out Z1.out)).mono ?_
  rintro e u2 ⟨rfl, b2⟩
  have B2 := hidE (bel_trans (bel_trans BX.out Z1.out) b2)
  have K2 := hidE ((KX.out.since Z1.out).since b2)
  have R2 := hidE ((KR.out.since Z1.out).since b2)
  clear b2 BX KX KR EA PC Z1 Z0 y0
  have I2 := hidE (IB.out.since B2.out)
  have y0 : u2.cell? ⟨g, p * 2, none⟩ = some (.slice (some ⟨gp, 0, none⟩) m cap) := by rw [← HVP.out]; exact I2.out.row.ents pn
  have c1 : u2.cell? ⟨gp, i * 3 + 1, none⟩ = some (.int .i64 v) := by
    have := (I2.out.cells i _ HI.out).2.1
    rw [Nat.zero_add] at this
    exact this
  have f1 := I2.out.ents.frozen (i * 3 + 1)
  have CM := hidE (emore_ok u2 gp (i * 3 + 1) v c1 f1 v0 v1)
  clear c1 f1
  go_wp2_with fail
  refine CM.out.mono ?_
  rintro e u3 ⟨rfl, hu3⟩
  have I3 : Hid (InB u3 Bd g n p gp cap V AG (es.set i ⟨k, v + 1, f⟩)) := by rw [hu3]; exact I2.out.setV HI.out (v + 1)
  have F3 : Hid (Far w u3 Bd g gp) := by rw [hu3]; exact (Far.mk' B2.out gl.out.2.2).set (a := ⟨gp, i * 3 + 1, none⟩) (Or.inr rfl) I2.out.bg I2.out.bp _
  have R3 : Hid (Blk u3 (w.heap.size + 1) 68 #[.string ⟨#[]⟩, .int .i64 0]) := by rw [hu3]; exact R2.out.other (a := ⟨gp, i * 3 + 1, none⟩) (by show w.heap.size + 1 ≠ gp; have := gl.out.2.1; omega) _
  clear hu3 CM I2 R2 K2 B2 y0
  have r0 : u3.cell? ⟨w.heap.size + 1, 0, none⟩ = some (.string ⟨#[]⟩) := R3.out.cell 0
  have r1 : u3.cell? ⟨w.heap.size + 1, 1, none⟩ = some (.int .i64 0) := R3.out.cell 1
  have z0 := R3.out.frozen 0
  have z1 := R3.out.frozen 1
  go_wp2_with fail
  refine bodyPost_ret (v := .tuple #[.agg #[.string ⟨#[]⟩, .int .i64 0], .int .i64 0]) ?_ rfl ?_
  rotate_left
  · exact ⟨rfl, InB.came (w' := eput2 u3 (w.heap.size + 1) (.string ⟨#[]⟩) (.int .i64 0)) (I3.out.of (eput2_heap _ _ _ _ _ (by have := gl.out.1; omega)) (eput2_heap _ _ _ _ _ (by have := gl.out.2.1; omega)) (Nat.le_of_eq (e2size _ _ _ _).symm)) (F3.out.put (by omega) (by have := gl.out.2.2; omega) _ _) (fun _ _ => rfl) _ rfl⟩
  have c3 := eput2_blk (t := 68) R3.out (.string ⟨#[]⟩) (.int .i64 0)
  have c30 := c3.cell 0
  have c31 := c3.cell 1
  change (results _ _).run _ (eput2 u3 (w.heap.size + 1) (.string ⟨#[]⟩) (.int .i64 0)) = .ok _ (eput2 u3 (w.heap.size + 1) (.string ⟨#[]⟩) (.int .i64 0))
  generalize eput2 u3 (w.heap.size + 1) (.string ⟨#[]⟩) (.int .i64 0) = W5 at c30 c31
  simp [results, Try.results29, go_sem, c30, c31]
set_option maxHeartbeats 3200000 in
theorem ecome_at_full (w : World) (Bd g n p cb : Nat) (V : Nat → Value) (AG : Nat → Int) (es : List Ent) (S room votes LS LM : Int) (rv : Value) (s : ByteArray) (pn : p < n) (nc : n ≤ cb) (el : es.length ≤ 1000) (PC : Hid (∀ u, Below w.heap.size w u → Calls Try.prog 53 #[.agg #[.int .u64 S, .int .i64 room, .int .i64 votes, .slice (some ⟨g, 0, none⟩) n cb, .int .u64 LS, .int .i64 LM, rv], .string s] u fun e w' => e = .returned (.int .i64 (p : Int)) ∧ Below u.heap.size u w')) (gp cap : Nat) (h : InB w Bd g n p gp cap V AG es) (i : Nat) (k : ByteArray) (f : Bool) (ha : atE es s = some i) (hi : es[i]? = some ⟨k, 1099511627776, f⟩) :
    Calls Try.prog 29 #[.agg #[.int .u64 S, .int .i64 room, .int .i64 votes, .slice (some ⟨g, 0, none⟩) n cb, .int .u64 LS, .int .i64 LM, rv], .string s] w fun e w' => e = .returned (.tuple #[.agg #[.string ⟨#[]⟩, .int .i64 0], .int .i64 5]) ∧ Below w.heap.size w w' := by
  have IB := hidE h
  have gl := hidE (And.intro h.row.lt (And.intro h.ents.lt h.low))
  have EL := hidE el
  have EA := hidE fun u (b : Below w.heap.size w u) => efind_any u (V p) es s (h.here b) (by omega)
  rw [h.val] at EA
  have HVP := hidE h.val
  have RK := hidE h.row
  obtain ⟨m, hm⟩ : ∃ m, m = es.length := ⟨_, rfl⟩
  have HM := hidE hm
  rw [← hm] at EA HVP
  clear h hm el
  rw [atI_some ha] at EA
  have il : i < m := by rw [HM.out]; exact (List.getElem?_eq_some_iff.1 hi).1
  have bi : (i : Int) < (m : Int) := by omega
  have bi0 : (i : Int) ≥ 0 := by omega
  have bi1 : (0 : Int) ≤ (i : Int) := by omega
  have HI := hidE hi
  clear ha hi
  have BX : Hid (Below w.heap.size w ((w.alloc (.cells #[.int .u64 S, .int .i64 room, .int .i64 votes, .slice (some ⟨g, 0, none⟩) n cb, .int .u64 LS, .int .i64 LM, rv] 28)).alloc (.cells #[.string ⟨#[]⟩, .int .i64 0] 68))) := (bel_alloc _ _).alloc (by simp) _
  have KX : Hid (Blk ((w.alloc (.cells #[.int .u64 S, .int .i64 room, .int .i64 votes, .slice (some ⟨g, 0, none⟩) n cb, .int .u64 LS, .int .i64 LM, rv] 28)).alloc (.cells #[.string ⟨#[]⟩, .int .i64 0] 68)) w.heap.size 28 #[.int .u64 S, .int .i64 room, .int .i64 votes, .slice (some ⟨g, 0, none⟩) n cb, .int .u64 LS, .int .i64 LM, rv]) := (Blk.new _ _ _).alloc _
  have KR : Hid (Blk ((w.alloc (.cells #[.int .u64 S, .int .i64 room, .int .i64 votes, .slice (some ⟨g, 0, none⟩) n cb, .int .u64 LS, .int .i64 LM, rv] 28)).alloc (.cells #[.string ⟨#[]⟩, .int .i64 0] 68)) (w.heap.size + 1) 68 #[.string ⟨#[]⟩, .int .i64 0]) := by
    have e := Blk.new (w.alloc (.cells #[.int .u64 S, .int .i64 room, .int .i64 votes, .slice (some ⟨g, 0, none⟩) n cb, .int .u64 LS, .int .i64 LM, rv] 28)) 68 #[.string ⟨#[]⟩, .int .i64 0]
    simp only [World.size_alloc] at e
    exact e
  have pb : (p : Int) < (n : Int) := by omega
  have p0 : (0 : Int) ≤ (p : Int) := by omega
  go_enter Try.func29, Try.ntmps29
  go_wp2_with fail
  generalize ((w.alloc (.cells #[.int .u64 S, .int .i64 room, .int .i64 votes, .slice (some ⟨g, 0, none⟩) n cb, .int .u64 LS, .int .i64 LM, rv] 28)).alloc (.cells #[.string ⟨#[]⟩, .int .i64 0] 68)) = X at BX KX KR ⊢
  refine letterQ ?_
  intro QQ hQQ
  have Z0 : Hid (Below X.heap.size X X.drew) := (Below.refl _ _).drew
  refine wp_region_noPanic ?_
  refine wp_region_held_drew (S := fun w2 => Below X.heap.size X w2) (by kernel_rfl) Z0.out (fun hHeld => ?_)
  clear hHeld
  generalize X.drew = q0 at Z0 ⊢
  refine wpAnyH_take (i := 0) (v := ?_) rfl (by kernel_rfl) (by kernel_rfl) (by kernel_rfl) (fun _ _ _ h => h) (Or.inl ⟨by rfl, ?_⟩) Z0.out ?_
  rotate_left
  · intro wq hSw; go_simp; first | done | with_reducible rfl
  simp only [List.getElem_toArray, List.getElem_cons_zero, Act.put, List.setIfInBounds_toArray, List.set_cons_zero, List.set_cons_succ]
  refine wpAnyH_take (i := 1) (v := ?_) rfl (by kernel_rfl) (by kernel_rfl) (by kernel_rfl) (fun _ _ _ h => h) (Or.inl ⟨by rfl, ?_⟩) Z0.out ?_
  rotate_left
  · intro wq hSw; have cl0 := (KX.out.since hSw).cell 3; go_simp; first | done | with_reducible rfl
  simp only [List.getElem_toArray, List.getElem_cons_zero, List.getElem_cons_succ, Act.put, List.setIfInBounds_toArray, List.set_cons_zero, List.set_cons_succ]
  refine wpAnyH_take (i := 2) (v := ?_) rfl (by kernel_rfl) (by kernel_rfl) (by kernel_rfl) (fun _ _ _ h => h) (Or.inl ⟨by rfl, ?_⟩) Z0.out ?_
  rotate_left
  · intro wq hSw; have cl0 := (KX.out.since hSw).cell 0; have cl1 := (KX.out.since hSw).cell 1; have cl2 := (KX.out.since hSw).cell 2; have cl3 := (KX.out.since hSw).cell 3; have cl4 := (KX.out.since hSw).cell 4; have cl5 := (KX.out.since hSw).cell 5; have cl6 := (KX.out.since hSw).cell 6; go_simp; first | done | with_reducible rfl
  simp only [List.getElem_toArray, List.getElem_cons_zero, List.getElem_cons_succ, Act.put, List.setIfInBounds_toArray, List.set_cons_zero, List.set_cons_succ]
  refine wpAnyH_take (i := 3) (v := ?_) rfl (by kernel_rfl) (by kernel_rfl) (by kernel_rfl) (fun _ _ _ h => h) (Or.inl ⟨by rfl, ?_⟩) Z0.out ?_
  rotate_left
  · intro wq hSw; go_simp; first | done | with_reducible rfl
  simp only [List.getElem_toArray, List.getElem_cons_zero, List.getElem_cons_succ, Act.put, List.setIfInBounds_toArray, List.set_cons_zero, List.set_cons_succ]
  refine wpAnyH_ready (rs := [4]) (by kernel_rfl) (by simp) ?_
  refine AllReadyH.cons rfl (fun K0 hK0 => ?_) ?_
  rotate_left
  · exact AllReadyH.nil
  refine step_func 53 #[.agg #[.int .u64 S, .int .i64 room, .int .i64 votes, .slice (some ⟨g, 0, none⟩) n cb, .int .u64 LS, .int .i64 LM, rv], .string s] (by rfl) rfl (by simp [Act.eval]) (fun _ _ => by kernel_rfl) ?_
  refine (PC.out _ (bel_trans BX.out Z0.out)).mono ?_
  rintro e uw ⟨rfl, b1⟩
  have Z1 : Hid (Below X.heap.size X uw) := bel_trans Z0.out b1
  clear b1
  refine ⟨_, rfl, ?_⟩
  refine hK0.out _ _ (by exact Z1.out) (fun hHeld => ?_)
  clear hK0 K0 hHeld
  simp only [Act.put, List.setIfInBounds_toArray]
  refine wpAnyH_take (i := 5) (v := ?_) rfl (by kernel_rfl) (by kernel_rfl) (by kernel_rfl) (fun _ _ _ h => h) (Or.inl ⟨by rfl, ?_⟩) Z1.out ?_
  rotate_left
  · intro wq hSw; go_simp; first | done | with_reducible rfl
  simp only [List.getElem_toArray, List.getElem_cons_zero, List.getElem_cons_succ, Act.put, List.setIfInBounds_toArray, List.set_cons_zero, List.set_cons_succ]
  refine wpAnyH_take (i := 6) (v := ?_) rfl (by kernel_rfl) (by kernel_rfl) (by kernel_rfl) (fun _ _ _ h => h) (Or.inl ⟨by rfl, ?_⟩) Z1.out ?_
  rotate_left
  · intro wq hSw; go_simp; first | done | with_reducible rfl
  simp only [List.getElem_toArray, List.getElem_cons_zero, List.getElem_cons_succ, Act.put, List.setIfInBounds_toArray, List.set_cons_zero, List.set_cons_succ]
  refine wpAnyH_done (by kernel_rfl) ?_ _
  refine NoPanic.normal ?_
  refine hQQ.out _ _ ?_
  clear hQQ
  have y0 : uw.cell? ⟨g, p * 2, none⟩ = some (.slice (some ⟨gp, 0, none⟩) m cap) := by rw [← HVP.out]; exact (RK.out.since (bel_trans BX.out Z1.out)).ents pn
  go_wp2_with fail
  refine (EA.out _ (bel_trans BX.out Z1.out)).mono ?_
  rintro e u2 ⟨rfl, b2⟩
  have B2 := hidE (bel_trans (bel_trans BX.out Z1.out) b2)
  have K2 := hidE ((KX.out.since Z1.out).since b2)
  have R2 := hidE ((KR.out.since Z1.out).since b2)
  clear b2 BX KX KR EA PC Z1 Z0 y0
  have I2 := hidE (IB.out.since B2.out)
  have y0 : u2.cell? ⟨g, p * 2, none⟩ = some (.slice (some ⟨gp, 0, none⟩) m cap) := by rw [← HVP.out]; exact I2.out.row.ents pn
  have c1 : u2.cell? ⟨gp, i * 3 + 1, none⟩ = some (.int .i64 1099511627776) := by
    have := (I2.out.cells i _ HI.out).2.1
    rw [Nat.zero_add] at this
    exact this
  have CM := hidE (emore_full u2 gp (i * 3 + 1) c1)
  clear c1
  go_wp2_with fail
  refine CM.out.mono ?_
  rintro e u3 ⟨rfl, hu3⟩
  have R3 : Hid (Blk u3 (w.heap.size + 1) 68 #[.string ⟨#[]⟩, .int .i64 0]) := by rw [hu3]; exact R2.out
  have B3 : Hid (Below w.heap.size w u3) := by rw [hu3]; exact B2.out
  clear hu3 CM I2 R2 K2 B2 y0
  have r0 : u3.cell? ⟨w.heap.size + 1, 0, none⟩ = some (.string ⟨#[]⟩) := R3.out.cell 0
  have r1 : u3.cell? ⟨w.heap.size + 1, 1, none⟩ = some (.int .i64 0) := R3.out.cell 1
  have z0 := R3.out.frozen 0
  have z1 := R3.out.frozen 1
  go_wp2_with fail
  refine bodyPost_ret (v := .tuple #[.agg #[.string ⟨#[]⟩, .int .i64 0], .int .i64 5]) ?_ rfl ?_
  rotate_left
  · exact ⟨rfl, eput2_below B3.out (by omega) _ _⟩
  have c3 := eput2_blk (t := 68) R3.out (.string ⟨#[]⟩) (.int .i64 0)
  have c30 := c3.cell 0
  have c31 := c3.cell 1
  change (results _ _).run _ (eput2 u3 (w.heap.size + 1) (.string ⟨#[]⟩) (.int .i64 0)) = .ok _ (eput2 u3 (w.heap.size + 1) (.string ⟨#[]⟩) (.int .i64 0))
  generalize eput2 u3 (w.heap.size + 1) (.string ⟨#[]⟩) (.int .i64 0) = W5 at c30 c31
  simp [results, Try.results29, go_sem, c30, c31]
set_option maxHeartbeats 3200000 in
theorem ecome_full (w : World) (Bd g n p cb : Nat) (V : Nat → Value) (AG : Nat → Int) (es : List Ent) (S room votes LS LM : Int) (rv : Value) (s : ByteArray) (pn : p < n) (nc : n ≤ cb) (el : es.length ≤ 1000) (PC : Hid (∀ u, Below w.heap.size w u → Calls Try.prog 53 #[.agg #[.int .u64 S, .int .i64 room, .int .i64 votes, .slice (some ⟨g, 0, none⟩) n cb, .int .u64 LS, .int .i64 LM, rv], .string s] u fun e w' => e = .returned (.int .i64 (p : Int)) ∧ Below u.heap.size u w')) (gp cap : Nat) (h : InB w Bd g n p gp cap V AG es) (ha : atE es s = none) (hr : ¬ (es.length : Int) < room) (hag : AG p = 1099511627776) :
    Calls Try.prog 29 #[.agg #[.int .u64 S, .int .i64 room, .int .i64 votes, .slice (some ⟨g, 0, none⟩) n cb, .int .u64 LS, .int .i64 LM, rv], .string s] w fun e w' => e = .returned (.tuple #[.agg #[.string ⟨#[]⟩, .int .i64 0], .int .i64 5]) ∧ Below w.heap.size w w' := by
  have HAG := hidE hag
  clear hag
  have IB := hidE h
  have gl := hidE (And.intro h.row.lt (And.intro h.ents.lt h.low))
  have EL := hidE el
  have EA := hidE fun u (b : Below w.heap.size w u) => efind_any u (V p) es s (h.here b) (by omega)
  rw [h.val] at EA
  have HVP := hidE h.val
  have RK := hidE h.row
  obtain ⟨m, hm⟩ : ∃ m, m = es.length := ⟨_, rfl⟩
  have HM := hidE hm
  rw [← hm] at EA HVP
  clear h hm el
  rw [atI_none ha] at EA
  clear ha
  have BX : Hid (Below w.heap.size w ((w.alloc (.cells #[.int .u64 S, .int .i64 room, .int .i64 votes, .slice (some ⟨g, 0, none⟩) n cb, .int .u64 LS, .int .i64 LM, rv] 28)).alloc (.cells #[.string ⟨#[]⟩, .int .i64 0] 68))) := (bel_alloc _ _).alloc (by simp) _
  have KX : Hid (Blk ((w.alloc (.cells #[.int .u64 S, .int .i64 room, .int .i64 votes, .slice (some ⟨g, 0, none⟩) n cb, .int .u64 LS, .int .i64 LM, rv] 28)).alloc (.cells #[.string ⟨#[]⟩, .int .i64 0] 68)) w.heap.size 28 #[.int .u64 S, .int .i64 room, .int .i64 votes, .slice (some ⟨g, 0, none⟩) n cb, .int .u64 LS, .int .i64 LM, rv]) := (Blk.new _ _ _).alloc _
  have KR : Hid (Blk ((w.alloc (.cells #[.int .u64 S, .int .i64 room, .int .i64 votes, .slice (some ⟨g, 0, none⟩) n cb, .int .u64 LS, .int .i64 LM, rv] 28)).alloc (.cells #[.string ⟨#[]⟩, .int .i64 0] 68)) (w.heap.size + 1) 68 #[.string ⟨#[]⟩, .int .i64 0]) := by
    have e := Blk.new (w.alloc (.cells #[.int .u64 S, .int .i64 room, .int .i64 votes, .slice (some ⟨g, 0, none⟩) n cb, .int .u64 LS, .int .i64 LM, rv] 28)) 68 #[.string ⟨#[]⟩, .int .i64 0]
    simp only [World.size_alloc] at e
    exact e
  have pb : (p : Int) < (n : Int) := by omega
  have p0 : (0 : Int) ≤ (p : Int) := by omega
  go_enter Try.func29, Try.ntmps29
  go_wp2_with fail
  generalize ((w.alloc (.cells #[.int .u64 S, .int .i64 room, .int .i64 votes, .slice (some ⟨g, 0, none⟩) n cb, .int .u64 LS, .int .i64 LM, rv] 28)).alloc (.cells #[.string ⟨#[]⟩, .int .i64 0] 68)) = X at BX KX KR ⊢
  refine letterQ ?_
  intro QQ hQQ
  have Z0 : Hid (Below X.heap.size X X.drew) := (Below.refl _ _).drew
  refine wp_region_noPanic ?_
  refine wp_region_held_drew (S := fun w2 => Below X.heap.size X w2) (by kernel_rfl) Z0.out (fun hHeld => ?_)
  clear hHeld
  generalize X.drew = q0 at Z0 ⊢
  refine wpAnyH_take (i := 0) (v := ?_) rfl (by kernel_rfl) (by kernel_rfl) (by kernel_rfl) (fun _ _ _ h => h) (Or.inl ⟨by rfl, ?_⟩) Z0.out ?_
  rotate_left
  · intro wq hSw; go_simp; first | done | with_reducible rfl
  simp only [List.getElem_toArray, List.getElem_cons_zero, Act.put, List.setIfInBounds_toArray, List.set_cons_zero, List.set_cons_succ]
  refine wpAnyH_take (i := 1) (v := ?_) rfl (by kernel_rfl) (by kernel_rfl) (by kernel_rfl) (fun _ _ _ h => h) (Or.inl ⟨by rfl, ?_⟩) Z0.out ?_
  rotate_left
  · intro wq hSw; have cl0 := (KX.out.since hSw).cell 3; go_simp; first | done | with_reducible rfl
  simp only [List.getElem_toArray, List.getElem_cons_zero, List.getElem_cons_succ, Act.put, List.setIfInBounds_toArray, List.set_cons_zero, List.set_cons_succ]
  refine wpAnyH_take (i := 2) (v := ?_) rfl (by kernel_rfl) (by kernel_rfl) (by kernel_rfl) (fun _ _ _ h => h) (Or.inl ⟨by rfl, ?_⟩) Z0.out ?_
  rotate_left
  · intro wq hSw; have cl0 := (KX.out.since hSw).cell 0; have cl1 := (KX.out.since hSw).cell 1; have cl2 := (KX.out.since hSw).cell 2; have cl3 := (KX.out.since hSw).cell 3; have cl4 := (KX.out.since hSw).cell 4; have cl5 := (KX.out.since hSw).cell 5; have cl6 := (KX.out.since hSw).cell 6; go_simp; first | done | with_reducible rfl
  simp only [List.getElem_toArray, List.getElem_cons_zero, List.getElem_cons_succ, Act.put, List.setIfInBounds_toArray, List.set_cons_zero, List.set_cons_succ]
  refine wpAnyH_take (i := 3) (v := ?_) rfl (by kernel_rfl) (by kernel_rfl) (by kernel_rfl) (fun _ _ _ h => h) (Or.inl ⟨by rfl, ?_⟩) Z0.out ?_
  rotate_left
  · intro wq hSw; go_simp; first | done | with_reducible rfl
  simp only [List.getElem_toArray, List.getElem_cons_zero, List.getElem_cons_succ, Act.put, List.setIfInBounds_toArray, List.set_cons_zero, List.set_cons_succ]
  refine wpAnyH_ready (rs := [4]) (by kernel_rfl) (by simp) ?_
  refine AllReadyH.cons rfl (fun K0 hK0 => ?_) ?_
  rotate_left
  · exact AllReadyH.nil
  refine step_func 53 #[.agg #[.int .u64 S, .int .i64 room, .int .i64 votes, .slice (some ⟨g, 0, none⟩) n cb, .int .u64 LS, .int .i64 LM, rv], .string s] (by rfl) rfl (by simp [Act.eval]) (fun _ _ => by kernel_rfl) ?_
  refine (PC.out _ (bel_trans BX.out Z0.out)).mono ?_
  rintro e uw ⟨rfl, b1⟩
  have Z1 : Hid (Below X.heap.size X uw) := bel_trans Z0.out b1
  clear b1
  refine ⟨_, rfl, ?_⟩
  refine hK0.out _ _ (by exact Z1.out) (fun hHeld => ?_)
  clear hK0 K0 hHeld
  simp only [Act.put, List.setIfInBounds_toArray]
  refine wpAnyH_take (i := 5) (v := ?_) rfl (by kernel_rfl) (by kernel_rfl) (by kernel_rfl) (fun _ _ _ h => h) (Or.inl ⟨by rfl, ?_⟩) Z1.out ?_
  rotate_left
  · intro wq hSw; go_simp; first | done | with_reducible rfl
  simp only [List.getElem_toArray, List.getElem_cons_zero, List.getElem_cons_succ, Act.put, List.setIfInBounds_toArray, List.set_cons_zero, List.set_cons_succ]
  refine wpAnyH_take (i := 6) (v := ?_) rfl (by kernel_rfl) (by kernel_rfl) (by kernel_rfl) (fun _ _ _ h => h) (Or.inl ⟨by rfl, ?_⟩) Z1.out ?_
  rotate_left
  · intro wq hSw; go_simp; first | done | with_reducible rfl
  simp only [List.getElem_toArray, List.getElem_cons_zero, List.getElem_cons_succ, Act.put, List.setIfInBounds_toArray, List.set_cons_zero, List.set_cons_succ]
  refine wpAnyH_done (by kernel_rfl) ?_ _
  refine NoPanic.normal ?_
  refine hQQ.out _ _ ?_
  clear hQQ
  have y0 : uw.cell? ⟨g, p * 2, none⟩ = some (.slice (some ⟨gp, 0, none⟩) m cap) := by rw [← HVP.out]; exact (RK.out.since (bel_trans BX.out Z1.out)).ents pn
  go_wp2_with fail
  refine (EA.out _ (bel_trans BX.out Z1.out)).mono ?_
  rintro e u2 ⟨rfl, b2⟩
  have B2 := hidE (bel_trans (bel_trans BX.out Z1.out) b2)
  have K2 := hidE ((KX.out.since Z1.out).since b2)
  have R2 := hidE ((KR.out.since Z1.out).since b2)
  clear b2 BX KX KR EA PC Z1 Z0 y0
  have I2 := hidE (IB.out.since B2.out)
  have y0 : u2.cell? ⟨g, p * 2, none⟩ = some (.slice (some ⟨gp, 0, none⟩) m cap) := by rw [← HVP.out]; exact I2.out.row.ents pn
  have x1 : u2.cell? ⟨w.heap.size, 1, none⟩ = some (.int .i64 room) := K2.out.cell 1
  have nr : ¬ (m : Int) < room := by have := HM.out; omega
  go_wp2_with fail
  go_quiet (fail)
  have I3 : Hid (InB (u2.drewN nq) Bd g n p gp cap V AG es) := I2.out.of rfl rfl (Nat.le_refl _)
  have K3 : Hid (Blk (u2.drewN nq) w.heap.size 28 #[.int .u64 S, .int .i64 room, .int .i64 votes, .slice (some ⟨g, 0, none⟩) n cb, .int .u64 LS, .int .i64 LM, rv]) := K2.out
  have R3 : Hid (Blk (u2.drewN nq) (w.heap.size + 1) 68 #[.string ⟨#[]⟩, .int .i64 0]) := R2.out
  have B3 : Hid (Below w.heap.size w (u2.drewN nq)) := below_drewN B2.out nq
  clear I2 K2 R2 B2 y0 x1
  generalize u2.drewN nq = u3 at I3 K3 R3 B3 ⊢
  have a1 : u3.cell? ⟨g, p * 2 + 1, none⟩ = some (.int .i64 (AG p)) := I3.out.row.ag pn
  have f1 := I3.out.row.frozen (p * 2 + 1)
  rw [HAG.out] at a1
  have CM := hidE (emore_full u3 g (p * 2 + 1) a1)
  clear a1 f1
  go_wp2_with fail
  refine CM.out.mono ?_
  rintro e u4 ⟨rfl, hu4⟩
  have R4 : Hid (Blk u4 (w.heap.size + 1) 68 #[.string ⟨#[]⟩, .int .i64 0]) := by rw [hu4]; exact R3.out
  have B4 : Hid (Below w.heap.size w u4) := by rw [hu4]; exact B3.out
  clear hu4 CM I3 R3 K3 B3
  have r0 : u4.cell? ⟨w.heap.size + 1, 0, none⟩ = some (.string ⟨#[]⟩) := R4.out.cell 0
  have r1 : u4.cell? ⟨w.heap.size + 1, 1, none⟩ = some (.int .i64 0) := R4.out.cell 1
  have z0 := R4.out.frozen 0
  have z1 := R4.out.frozen 1
  go_wp2_with fail
  refine bodyPost_ret (v := .tuple #[.agg #[.string ⟨#[]⟩, .int .i64 0], .int .i64 5]) ?_ rfl ?_
  rotate_left
  · exact ⟨rfl, eput2_below B4.out (by omega) _ _⟩
  have c3 := eput2_blk (t := 68) R4.out (.string ⟨#[]⟩) (.int .i64 0)
  have c30 := c3.cell 0
  have c31 := c3.cell 1
  change (results _ _).run _ (eput2 u4 (w.heap.size + 1) (.string ⟨#[]⟩) (.int .i64 0)) = .ok _ (eput2 u4 (w.heap.size + 1) (.string ⟨#[]⟩) (.int .i64 0))
  generalize eput2 u4 (w.heap.size + 1) (.string ⟨#[]⟩) (.int .i64 0) = W5 at c30 c31
  simp [results, Try.results29, go_sem, c30, c31]
set_option maxHeartbeats 3200000 in
theorem ecome_out (w : World) (Bd g n p cb : Nat) (V : Nat → Value) (AG : Nat → Int) (es : List Ent) (S room votes LS LM : Int) (rv : Value) (s : ByteArray) (pn : p < n) (nc : n ≤ cb) (el : es.length ≤ 1000) (PC : Hid (∀ u, Below w.heap.size w u → Calls Try.prog 53 #[.agg #[.int .u64 S, .int .i64 room, .int .i64 votes, .slice (some ⟨g, 0, none⟩) n cb, .int .u64 LS, .int .i64 LM, rv], .string s] u fun e w' => e = .returned (.int .i64 (p : Int)) ∧ Below u.heap.size u w')) (gp cap : Nat) (h : InB w Bd g n p gp cap V AG es) (ha : atE es s = none) (hr : ¬ (es.length : Int) < room) (a0 : 0 ≤ AG p) (a1 : AG p < 1099511627776) (t : ByteArray) (d : Int) (d0 : Bool) (hlow : es[lowAt es]? = some ⟨t, d, d0⟩) (v1 : 1 ≤ votes) (v2 : votes ≤ 64) (dd1 : 1 ≤ d) (dd2 : d ≤ 1099511627776) (cond : AG p + 1 < votes * d) :
    Calls Try.prog 29 #[.agg #[.int .u64 S, .int .i64 room, .int .i64 votes, .slice (some ⟨g, 0, none⟩) n cb, .int .u64 LS, .int .i64 LM, rv], .string s] w fun e w' => e = .returned (.tuple #[.agg #[.string s, .int .i64 1], .int .i64 0]) ∧ CameP w w' Bd g n p V AG ⟨es, AG p + 1⟩ := by
  have HLOW := hidE hlow
  have HC := hidE cond
  obtain ⟨ag, hag⟩ : ∃ ag, ag = AG p := ⟨_, rfl⟩
  have HAG := hidE hag
  rw [← hag] at a0 a1
  have ag0 := a0
  have ag1 := a1
  clear hlow cond hag a0 a1
  have IB := hidE h
  have gl := hidE (And.intro h.row.lt (And.intro h.ents.lt h.low))
  have EL := hidE el
  have EA := hidE fun u (b : Below w.heap.size w u) => efind_any u (V p) es s (h.here b) (by omega)
  rw [h.val] at EA
  have HVP := hidE h.val
  have RK := hidE h.row
  obtain ⟨m, hm⟩ : ∃ m, m = es.length := ⟨_, rfl⟩
  have HM := hidE hm
  rw [← hm] at EA HVP
  clear h hm el
  rw [atI_none ha] at EA
  clear ha
  have BX : Hid (Below w.heap.size w ((w.alloc (.cells #[.int .u64 S, .int .i64 room, .int .i64 votes, .slice (some ⟨g, 0, none⟩) n cb, .int .u64 LS, .int .i64 LM, rv] 28)).alloc (.cells #[.string ⟨#[]⟩, .int .i64 0] 68))) := (bel_alloc _ _).alloc (by simp) _
  have KX : Hid (Blk ((w.alloc (.cells #[.int .u64 S, .int .i64 room, .int .i64 votes, .slice (some ⟨g, 0, none⟩) n cb, .int .u64 LS, .int .i64 LM, rv] 28)).alloc (.cells #[.string ⟨#[]⟩, .int .i64 0] 68)) w.heap.size 28 #[.int .u64 S, .int .i64 room, .int .i64 votes, .slice (some ⟨g, 0, none⟩) n cb, .int .u64 LS, .int .i64 LM, rv]) := (Blk.new _ _ _).alloc _
  have KR : Hid (Blk ((w.alloc (.cells #[.int .u64 S, .int .i64 room, .int .i64 votes, .slice (some ⟨g, 0, none⟩) n cb, .int .u64 LS, .int .i64 LM, rv] 28)).alloc (.cells #[.string ⟨#[]⟩, .int .i64 0] 68)) (w.heap.size + 1) 68 #[.string ⟨#[]⟩, .int .i64 0]) := by
    have e := Blk.new (w.alloc (.cells #[.int .u64 S, .int .i64 room, .int .i64 votes, .slice (some ⟨g, 0, none⟩) n cb, .int .u64 LS, .int .i64 LM, rv] 28)) 68 #[.string ⟨#[]⟩, .int .i64 0]
    simp only [World.size_alloc] at e
    exact e
  have pb : (p : Int) < (n : Int) := by omega
  have p0 : (0 : Int) ≤ (p : Int) := by omega
  go_enter Try.func29, Try.ntmps29
  go_wp2_with fail
  generalize ((w.alloc (.cells #[.int .u64 S, .int .i64 room, .int .i64 votes, .slice (some ⟨g, 0, none⟩) n cb, .int .u64 LS, .int .i64 LM, rv] 28)).alloc (.cells #[.string ⟨#[]⟩, .int .i64 0] 68)) = X at BX KX KR ⊢
  refine letterQ ?_
  intro QQ hQQ
  have Z0 : Hid (Below X.heap.size X X.drew) := (Below.refl _ _).drew
  refine wp_region_noPanic ?_
  refine wp_region_held_drew (S := fun w2 => Below X.heap.size X w2) (by kernel_rfl) Z0.out (fun hHeld => ?_)
  clear hHeld
  generalize X.drew = q0 at Z0 ⊢
  refine wpAnyH_take (i := 0) (v := ?_) rfl (by kernel_rfl) (by kernel_rfl) (by kernel_rfl) (fun _ _ _ h => h) (Or.inl ⟨by rfl, ?_⟩) Z0.out ?_
  rotate_left
  · intro wq hSw; go_simp; first | done | with_reducible rfl
  simp only [List.getElem_toArray, List.getElem_cons_zero, Act.put, List.setIfInBounds_toArray, List.set_cons_zero, List.set_cons_succ]
  refine wpAnyH_take (i := 1) (v := ?_) rfl (by kernel_rfl) (by kernel_rfl) (by kernel_rfl) (fun _ _ _ h => h) (Or.inl ⟨by rfl, ?_⟩) Z0.out ?_
  rotate_left
  · intro wq hSw; have cl0 := (KX.out.since hSw).cell 3; go_simp; first | done | with_reducible rfl
  simp only [List.getElem_toArray, List.getElem_cons_zero, List.getElem_cons_succ, Act.put, List.setIfInBounds_toArray, List.set_cons_zero, List.set_cons_succ]
  refine wpAnyH_take (i := 2) (v := ?_) rfl (by kernel_rfl) (by kernel_rfl) (by kernel_rfl) (fun _ _ _ h => h) (Or.inl ⟨by rfl, ?_⟩) Z0.out ?_
  rotate_left
  · intro wq hSw; have cl0 := (KX.out.since hSw).cell 0; have cl1 := (KX.out.since hSw).cell 1; have cl2 := (KX.out.since hSw).cell 2; have cl3 := (KX.out.since hSw).cell 3; have cl4 := (KX.out.since hSw).cell 4; have cl5 := (KX.out.since hSw).cell 5; have cl6 := (KX.out.since hSw).cell 6; go_simp; first | done | with_reducible rfl
  simp only [List.getElem_toArray, List.getElem_cons_zero, List.getElem_cons_succ, Act.put, List.setIfInBounds_toArray, List.set_cons_zero, List.set_cons_succ]
  refine wpAnyH_take (i := 3) (v := ?_) rfl (by kernel_rfl) (by kernel_rfl) (by kernel_rfl) (fun _ _ _ h => h) (Or.inl ⟨by rfl, ?_⟩) Z0.out ?_
  rotate_left
  · intro wq hSw; go_simp; first | done | with_reducible rfl
  simp only [List.getElem_toArray, List.getElem_cons_zero, List.getElem_cons_succ, Act.put, List.setIfInBounds_toArray, List.set_cons_zero, List.set_cons_succ]
  refine wpAnyH_ready (rs := [4]) (by kernel_rfl) (by simp) ?_
  refine AllReadyH.cons rfl (fun K0 hK0 => ?_) ?_
  rotate_left
  · exact AllReadyH.nil
  refine step_func 53 #[.agg #[.int .u64 S, .int .i64 room, .int .i64 votes, .slice (some ⟨g, 0, none⟩) n cb, .int .u64 LS, .int .i64 LM, rv], .string s] (by rfl) rfl (by simp [Act.eval]) (fun _ _ => by kernel_rfl) ?_
  refine (PC.out _ (bel_trans BX.out Z0.out)).mono ?_
  rintro e uw ⟨rfl, b1⟩
  have Z1 : Hid (Below X.heap.size X uw) := bel_trans Z0.out b1
  clear b1
  refine ⟨_, rfl, ?_⟩
  refine hK0.out _ _ (by exact Z1.out) (fun hHeld => ?_)
  clear hK0 K0 hHeld
  simp only [Act.put, List.setIfInBounds_toArray]
  refine wpAnyH_take (i := 5) (v := ?_) rfl (by kernel_rfl) (by kernel_rfl) (by kernel_rfl) (fun _ _ _ h => h) (Or.inl ⟨by rfl, ?_⟩) Z1.out ?_
  rotate_left
  · intro wq hSw; go_simp; first | done | with_reducible rfl
  simp only [List.getElem_toArray, List.getElem_cons_zero, List.getElem_cons_succ, Act.put, List.setIfInBounds_toArray, List.set_cons_zero, List.set_cons_succ]
  refine wpAnyH_take (i := 6) (v := ?_) rfl (by kernel_rfl) (by kernel_rfl) (by kernel_rfl) (fun _ _ _ h => h) (Or.inl ⟨by rfl, ?_⟩) Z1.out ?_
  rotate_left
  · intro wq hSw; go_simp; first | done | with_reducible rfl
  simp only [List.getElem_toArray, List.getElem_cons_zero, List.getElem_cons_succ, Act.put, List.setIfInBounds_toArray, List.set_cons_zero, List.set_cons_succ]
  refine wpAnyH_done (by kernel_rfl) ?_ _
  refine NoPanic.normal ?_
  refine hQQ.out _ _ ?_
  clear hQQ
  have y0 : uw.cell? ⟨g, p * 2, none⟩ = some (.slice (some ⟨gp, 0, none⟩) m cap) := by rw [← HVP.out]; exact (RK.out.since (bel_trans BX.out Z1.out)).ents pn
  go_wp2_with fail
  refine (EA.out _ (bel_trans BX.out Z1.out)).mono ?_
  rintro e u2 ⟨rfl, b2⟩
  have B2 := hidE (bel_trans (bel_trans BX.out Z1.out) b2)
  have K2 := hidE ((KX.out.since Z1.out).since b2)
  have R2 := hidE ((KR.out.since Z1.out).since b2)
  clear b2 BX KX KR EA PC Z1 Z0 y0
  have I2 := hidE (IB.out.since B2.out)
  have y0 : u2.cell? ⟨g, p * 2, none⟩ = some (.slice (some ⟨gp, 0, none⟩) m cap) := by rw [← HVP.out]; exact I2.out.row.ents pn
  have x1 : u2.cell? ⟨w.heap.size, 1, none⟩ = some (.int .i64 room) := K2.out.cell 1
  have nr : ¬ (m : Int) < room := by have := HM.out; omega
  go_wp2_with fail
  go_quiet (fail)
  have I3 : Hid (InB (u2.drewN nq) Bd g n p gp cap V AG es) := I2.out.of rfl rfl (Nat.le_refl _)
  have K3 : Hid (Blk (u2.drewN nq) w.heap.size 28 #[.int .u64 S, .int .i64 room, .int .i64 votes, .slice (some ⟨g, 0, none⟩) n cb, .int .u64 LS, .int .i64 LM, rv]) := K2.out
  have R3 : Hid (Blk (u2.drewN nq) (w.heap.size + 1) 68 #[.string ⟨#[]⟩, .int .i64 0]) := R2.out
  have B3 : Hid (Below w.heap.size w (u2.drewN nq)) := below_drewN B2.out nq
  clear I2 K2 R2 B2 y0 x1
  generalize u2.drewN nq = u3 at I3 K3 R3 B3 ⊢
  have a1 : u3.cell? ⟨g, p * 2 + 1, none⟩ = some (.int .i64 (AG p)) := I3.out.row.ag pn
  have f1 := I3.out.row.frozen (p * 2 + 1)
  rw [← HAG.out] at a1
  have CM := hidE (emore_ok u3 g (p * 2 + 1) ag a1 f1 ag0 ag1)
  clear a1 f1
  go_wp2_with fail
  refine CM.out.mono ?_
  rintro e u4 ⟨rfl, hu4⟩
  have I4 : Hid (InB u4 Bd g n p gp cap V (fun j => if j = p then ag + 1 else AG j) es) := by rw [hu4]; exact I3.out.setA (ag + 1)
  have F4 : Hid (Far w u4 Bd g gp) := by rw [hu4]; exact (Far.mk' B3.out gl.out.2.2).set (a := ⟨g, p * 2 + 1, none⟩) (Or.inl rfl) I3.out.bg I3.out.bp _
  have R4 : Hid (Blk u4 (w.heap.size + 1) 68 #[.string ⟨#[]⟩, .int .i64 0]) := by rw [hu4]; exact R3.out.other (a := ⟨g, p * 2 + 1, none⟩) (by show w.heap.size + 1 ≠ g; have := gl.out.1; omega) _
  have K4 : Hid (Blk u4 w.heap.size 28 #[.int .u64 S, .int .i64 room, .int .i64 votes, .slice (some ⟨g, 0, none⟩) n cb, .int .u64 LS, .int .i64 LM, rv]) := by rw [hu4]; exact K3.out.other (a := ⟨g, p * 2 + 1, none⟩) (by show w.heap.size ≠ g; have := gl.out.1; omega) _
  have z4 : Hid (w.heap.size + 1 < u4.heap.size) := R4.out.lt
  clear hu4 CM I3 R3 K3 B3
  have x2 : u4.cell? ⟨w.heap.size, 2, none⟩ = some (.int .i64 votes) := K4.out.cell 2
  have CD := hidE (edispute_out u4 Bd g n p gp cap V (fun j => if j = p then ag + 1 else AG j) es s 1 true t d d0 votes I4.out HLOW.out EL.out v1 v2 dd1 dd2 (by have := HC.out; rw [← HAG.out] at this; simpa using this))
  go_wp2_with fail
  refine CD.out.mono ?_
  rintro e u5 ⟨rfl, b5⟩
  have R5 := hidE (R4.out.since b5)
  have I5 := hidE (I4.out.since b5)
  have F5 := hidE (F4.out.since b5 I4.out.low)
  clear b5 CD I4 F4 R4 K4 x2
  have r0 : u5.cell? ⟨w.heap.size + 1, 0, none⟩ = some (.string ⟨#[]⟩) := R5.out.cell 0
  have r1 : u5.cell? ⟨w.heap.size + 1, 1, none⟩ = some (.int .i64 0) := R5.out.cell 1
  have z0 := R5.out.frozen 0
  have z1 := R5.out.frozen 1
  go_wp2_with fail
  refine bodyPost_ret (v := .tuple #[.agg #[.string s, .int .i64 1], .int .i64 0]) ?_ rfl ?_
  rotate_left
  · refine ⟨rfl, ?_⟩
    have e := InB.came (AG := AG) (I5.out.of (w' := eput2 u5 (w.heap.size + 1) (.string s) (.int .i64 1)) (eput2_heap _ _ _ _ _ (by have := gl.out.1; omega)) (eput2_heap _ _ _ _ _ (by have := gl.out.2.1; omega)) (Nat.le_of_eq (e2size _ _ _ _).symm)) (F5.out.put (by omega) (by have := gl.out.2.2; omega) _ _) (fun i hi => if_neg hi) (ag + 1) (if_pos rfl)
    rw [← HAG.out]
    exact e
  have c3 := eput2_blk (t := 68) R5.out (.string s) (.int .i64 1)
  have c30 := c3.cell 0
  have c31 := c3.cell 1
  change (results _ _).run _ (eput2 u5 (w.heap.size + 1) (.string s) (.int .i64 1)) = .ok _ (eput2 u5 (w.heap.size + 1) (.string s) (.int .i64 1))
  generalize eput2 u5 (w.heap.size + 1) (.string s) (.int .i64 1) = W5 at c30 c31
  simp [results, Try.results29, go_sem, c30, c31]
set_option maxHeartbeats 3200000 in
theorem ecome_in (w : World) (Bd g n p cb : Nat) (V : Nat → Value) (AG : Nat → Int) (es : List Ent) (S room votes LS LM : Int) (rv : Value) (s : ByteArray) (pn : p < n) (nc : n ≤ cb) (el : es.length ≤ 1000) (PC : Hid (∀ u, Below w.heap.size w u → Calls Try.prog 53 #[.agg #[.int .u64 S, .int .i64 room, .int .i64 votes, .slice (some ⟨g, 0, none⟩) n cb, .int .u64 LS, .int .i64 LM, rv], .string s] u fun e w' => e = .returned (.int .i64 (p : Int)) ∧ Below u.heap.size u w')) (gp cap : Nat) (h : InB w Bd g n p gp cap V AG es) (ha : atE es s = none) (hr : ¬ (es.length : Int) < room) (a0 : 0 ≤ AG p) (a1 : AG p < 1099511627776) (t : ByteArray) (d : Int) (d0 : Bool) (hlow : es[lowAt es]? = some ⟨t, d, d0⟩) (v1 : 1 ≤ votes) (v2 : votes ≤ 64) (dd1 : 1 ≤ d) (dd2 : d ≤ 1099511627776) (cond : ¬ AG p + 1 < votes * d) :
    Calls Try.prog 29 #[.agg #[.int .u64 S, .int .i64 room, .int .i64 votes, .slice (some ⟨g, 0, none⟩) n cb, .int .u64 LS, .int .i64 LM, rv], .string s] w fun e w' => e = .returned (.tuple #[.agg #[.string t, .int .i64 d], .int .i64 0]) ∧ CameP w w' Bd g n p V AG ⟨es.set (lowAt es) ⟨s, 1, true⟩, 0⟩ := by
  have HLOW := hidE hlow
  have HC := hidE cond
  obtain ⟨ag, hag⟩ : ∃ ag, ag = AG p := ⟨_, rfl⟩
  have HAG := hidE hag
  rw [← hag] at a0 a1
  have ag0 := a0
  have ag1 := a1
  clear hlow cond hag a0 a1
  have IB := hidE h
  have gl := hidE (And.intro h.row.lt (And.intro h.ents.lt h.low))
  have EL := hidE el
  have EA := hidE fun u (b : Below w.heap.size w u) => efind_any u (V p) es s (h.here b) (by omega)
  rw [h.val] at EA
  have HVP := hidE h.val
  have RK := hidE h.row
  obtain ⟨m, hm⟩ : ∃ m, m = es.length := ⟨_, rfl⟩
  have HM := hidE hm
  rw [← hm] at EA HVP
  clear h hm el
  rw [atI_none ha] at EA
  clear ha
  have BX : Hid (Below w.heap.size w ((w.alloc (.cells #[.int .u64 S, .int .i64 room, .int .i64 votes, .slice (some ⟨g, 0, none⟩) n cb, .int .u64 LS, .int .i64 LM, rv] 28)).alloc (.cells #[.string ⟨#[]⟩, .int .i64 0] 68))) := (bel_alloc _ _).alloc (by simp) _
  have KX : Hid (Blk ((w.alloc (.cells #[.int .u64 S, .int .i64 room, .int .i64 votes, .slice (some ⟨g, 0, none⟩) n cb, .int .u64 LS, .int .i64 LM, rv] 28)).alloc (.cells #[.string ⟨#[]⟩, .int .i64 0] 68)) w.heap.size 28 #[.int .u64 S, .int .i64 room, .int .i64 votes, .slice (some ⟨g, 0, none⟩) n cb, .int .u64 LS, .int .i64 LM, rv]) := (Blk.new _ _ _).alloc _
  have KR : Hid (Blk ((w.alloc (.cells #[.int .u64 S, .int .i64 room, .int .i64 votes, .slice (some ⟨g, 0, none⟩) n cb, .int .u64 LS, .int .i64 LM, rv] 28)).alloc (.cells #[.string ⟨#[]⟩, .int .i64 0] 68)) (w.heap.size + 1) 68 #[.string ⟨#[]⟩, .int .i64 0]) := by
    have e := Blk.new (w.alloc (.cells #[.int .u64 S, .int .i64 room, .int .i64 votes, .slice (some ⟨g, 0, none⟩) n cb, .int .u64 LS, .int .i64 LM, rv] 28)) 68 #[.string ⟨#[]⟩, .int .i64 0]
    simp only [World.size_alloc] at e
    exact e
  have pb : (p : Int) < (n : Int) := by omega
  have p0 : (0 : Int) ≤ (p : Int) := by omega
  go_enter Try.func29, Try.ntmps29
  go_wp2_with fail
  generalize ((w.alloc (.cells #[.int .u64 S, .int .i64 room, .int .i64 votes, .slice (some ⟨g, 0, none⟩) n cb, .int .u64 LS, .int .i64 LM, rv] 28)).alloc (.cells #[.string ⟨#[]⟩, .int .i64 0] 68)) = X at BX KX KR ⊢
  refine letterQ ?_
  intro QQ hQQ
  have Z0 : Hid (Below X.heap.size X X.drew) := (Below.refl _ _).drew
  refine wp_region_noPanic ?_
  refine wp_region_held_drew (S := fun w2 => Below X.heap.size X w2) (by kernel_rfl) Z0.out (fun hHeld => ?_)
  clear hHeld
  generalize X.drew = q0 at Z0 ⊢
  refine wpAnyH_take (i := 0) (v := ?_) rfl (by kernel_rfl) (by kernel_rfl) (by kernel_rfl) (fun _ _ _ h => h) (Or.inl ⟨by rfl, ?_⟩) Z0.out ?_
  rotate_left
  · intro wq hSw; go_simp; first | done | with_reducible rfl
  simp only [List.getElem_toArray, List.getElem_cons_zero, Act.put, List.setIfInBounds_toArray, List.set_cons_zero, List.set_cons_succ]
  refine wpAnyH_take (i := 1) (v := ?_) rfl (by kernel_rfl) (by kernel_rfl) (by kernel_rfl) (fun _ _ _ h => h) (Or.inl ⟨by rfl, ?_⟩) Z0.out ?_
  rotate_left
  · intro wq hSw; have cl0 := (KX.out.since hSw).cell 3; go_simp; first | done | with_reducible rfl
  simp only [List.getElem_toArray, List.getElem_cons_zero, List.getElem_cons_succ, Act.put, List.setIfInBounds_toArray, List.set_cons_zero, List.set_cons_succ]
  refine wpAnyH_take (i := 2) (v := ?_) rfl (by kernel_rfl) (by kernel_rfl) (by kernel_rfl) (fun _ _ _ h => h) (Or.inl ⟨by rfl, ?_⟩) Z0.out ?_
  rotate_left
  · intro wq hSw; have cl0 := (KX.out.since hSw).cell 0; have cl1 := (KX.out.since hSw).cell 1; have cl2 := (KX.out.since hSw).cell 2; have cl3 := (KX.out.since hSw).cell 3; have cl4 := (KX.out.since hSw).cell 4; have cl5 := (KX.out.since hSw).cell 5; have cl6 := (KX.out.since hSw).cell 6; go_simp; first | done | with_reducible rfl
  simp only [List.getElem_toArray, List.getElem_cons_zero, List.getElem_cons_succ, Act.put, List.setIfInBounds_toArray, List.set_cons_zero, List.set_cons_succ]
  refine wpAnyH_take (i := 3) (v := ?_) rfl (by kernel_rfl) (by kernel_rfl) (by kernel_rfl) (fun _ _ _ h => h) (Or.inl ⟨by rfl, ?_⟩) Z0.out ?_
  rotate_left
  · intro wq hSw; go_simp; first | done | with_reducible rfl
  simp only [List.getElem_toArray, List.getElem_cons_zero, List.getElem_cons_succ, Act.put, List.setIfInBounds_toArray, List.set_cons_zero, List.set_cons_succ]
  refine wpAnyH_ready (rs := [4]) (by kernel_rfl) (by simp) ?_
  refine AllReadyH.cons rfl (fun K0 hK0 => ?_) ?_
  rotate_left
  · exact AllReadyH.nil
  refine step_func 53 #[.agg #[.int .u64 S, .int .i64 room, .int .i64 votes, .slice (some ⟨g, 0, none⟩) n cb, .int .u64 LS, .int .i64 LM, rv], .string s] (by rfl) rfl (by simp [Act.eval]) (fun _ _ => by kernel_rfl) ?_
  refine (PC.out _ (bel_trans BX.out Z0.out)).mono ?_
  rintro e uw ⟨rfl, b1⟩
  have Z1 : Hid (Below X.heap.size X uw) := bel_trans Z0.out b1
  clear b1
  refine ⟨_, rfl, ?_⟩
  refine hK0.out _ _ (by exact Z1.out) (fun hHeld => ?_)
  clear hK0 K0 hHeld
  simp only [Act.put, List.setIfInBounds_toArray]
  refine wpAnyH_take (i := 5) (v := ?_) rfl (by kernel_rfl) (by kernel_rfl) (by kernel_rfl) (fun _ _ _ h => h) (Or.inl ⟨by rfl, ?_⟩) Z1.out ?_
  rotate_left
  · intro wq hSw; go_simp; first | done | with_reducible rfl
  simp only [List.getElem_toArray, List.getElem_cons_zero, List.getElem_cons_succ, Act.put, List.setIfInBounds_toArray, List.set_cons_zero, List.set_cons_succ]
  refine wpAnyH_take (i := 6) (v := ?_) rfl (by kernel_rfl) (by kernel_rfl) (by kernel_rfl) (fun _ _ _ h => h) (Or.inl ⟨by rfl, ?_⟩) Z1.out ?_
  rotate_left
  · intro wq hSw; go_simp; first | done | with_reducible rfl
  simp only [List.getElem_toArray, List.getElem_cons_zero, List.getElem_cons_succ, Act.put, List.setIfInBounds_toArray, List.set_cons_zero, List.set_cons_succ]
  refine wpAnyH_done (by kernel_rfl) ?_ _
  refine NoPanic.normal ?_
  refine hQQ.out _ _ ?_
  clear hQQ
  have y0 : uw.cell? ⟨g, p * 2, none⟩ = some (.slice (some ⟨gp, 0, none⟩) m cap) := by rw [← HVP.out]; exact (RK.out.since (bel_trans BX.out Z1.out)).ents pn
  go_wp2_with fail
  refine (EA.out _ (bel_trans BX.out Z1.out)).mono ?_
  rintro e u2 ⟨rfl, b2⟩
  have B2 := hidE (bel_trans (bel_trans BX.out Z1.out) b2)
  have K2 := hidE ((KX.out.since Z1.out).since b2)
  have R2 := hidE ((KR.out.since Z1.out).since b2)
  clear b2 BX KX KR EA PC Z1 Z0 y0
  have I2 := hidE (IB.out.since B2.out)
  have y0 : u2.cell? ⟨g, p * 2, none⟩ = some (.slice (some ⟨gp, 0, none⟩) m cap) := by rw [← HVP.out]; exact I2.out.row.ents pn
  have x1 : u2.cell? ⟨w.heap.size, 1, none⟩ = some (.int .i64 room) := K2.out.cell 1
  have nr : ¬ (m : Int) < room := by have := HM.out; omega
  go_wp2_with fail
  go_quiet (fail)
  have I3 : Hid (InB (u2.drewN nq) Bd g n p gp cap V AG es) := I2.out.of rfl rfl (Nat.le_refl _)
  have K3 : Hid (Blk (u2.drewN nq) w.heap.size 28 #[.int .u64 S, .int .i64 room, .int .i64 votes, .slice (some ⟨g, 0, none⟩) n cb, .int .u64 LS, .int .i64 LM, rv]) := K2.out
  have R3 : Hid (Blk (u2.drewN nq) (w.heap.size + 1) 68 #[.string ⟨#[]⟩, .int .i64 0]) := R2.out
  have B3 : Hid (Below w.heap.size w (u2.drewN nq)) := below_drewN B2.out nq
  clear I2 K2 R2 B2 y0 x1
  generalize u2.drewN nq = u3 at I3 K3 R3 B3 ⊢
  have a1 : u3.cell? ⟨g, p * 2 + 1, none⟩ = some (.int .i64 (AG p)) := I3.out.row.ag pn
  have f1 := I3.out.row.frozen (p * 2 + 1)
  rw [← HAG.out] at a1
  have CM := hidE (emore_ok u3 g (p * 2 + 1) ag a1 f1 ag0 ag1)
  clear a1 f1
  go_wp2_with fail
  refine CM.out.mono ?_
  rintro e u4 ⟨rfl, hu4⟩
  have I4 : Hid (InB u4 Bd g n p gp cap V (fun j => if j = p then ag + 1 else AG j) es) := by rw [hu4]; exact I3.out.setA (ag + 1)
  have F4 : Hid (Far w u4 Bd g gp) := by rw [hu4]; exact (Far.mk' B3.out gl.out.2.2).set (a := ⟨g, p * 2 + 1, none⟩) (Or.inl rfl) I3.out.bg I3.out.bp _
  have R4 : Hid (Blk u4 (w.heap.size + 1) 68 #[.string ⟨#[]⟩, .int .i64 0]) := by rw [hu4]; exact R3.out.other (a := ⟨g, p * 2 + 1, none⟩) (by show w.heap.size + 1 ≠ g; have := gl.out.1; omega) _
  have K4 : Hid (Blk u4 w.heap.size 28 #[.int .u64 S, .int .i64 room, .int .i64 votes, .slice (some ⟨g, 0, none⟩) n cb, .int .u64 LS, .int .i64 LM, rv]) := by rw [hu4]; exact K3.out.other (a := ⟨g, p * 2 + 1, none⟩) (by show w.heap.size ≠ g; have := gl.out.1; omega) _
  have z4 : Hid (w.heap.size + 1 < u4.heap.size) := R4.out.lt
  clear hu4 CM I3 R3 K3 B3
  have x2 : u4.cell? ⟨w.heap.size, 2, none⟩ = some (.int .i64 votes) := K4.out.cell 2
  have CD := hidE (edispute_in u4 Bd g n p gp cap V (fun j => if j = p then ag + 1 else AG j) es s 1 true t d d0 votes I4.out HLOW.out EL.out v1 v2 dd1 dd2 (by have := HC.out; rw [← HAG.out] at this; simpa using this))
  go_wp2_with fail
  refine CD.out.mono ?_
  rintro e u5 ⟨rfl, i5, f5⟩
  have R5 : Hid (Blk u5 (w.heap.size + 1) 68 #[.string ⟨#[]⟩, .int .i64 0]) := R4.out.of (f5.1.2 _ ⟨by have := gl.out.1; omega, by have := gl.out.2.1; omega⟩ z4.out)
  have I5 := hidE i5
  have F5 : Hid (Far w u5 Bd g gp) := ⟨F4.out.1.trans f5.1, F4.out.2.trans f5.2⟩
  clear i5 f5 CD I4 F4 R4 K4 x2
  have r0 : u5.cell? ⟨w.heap.size + 1, 0, none⟩ = some (.string ⟨#[]⟩) := R5.out.cell 0
  have r1 : u5.cell? ⟨w.heap.size + 1, 1, none⟩ = some (.int .i64 0) := R5.out.cell 1
  have z0 := R5.out.frozen 0
  have z1 := R5.out.frozen 1
  go_wp2_with fail
  refine bodyPost_ret (v := .tuple #[.agg #[.string t, .int .i64 d], .int .i64 0]) ?_ rfl ?_
  rotate_left
  · refine ⟨rfl, ?_⟩
    have e := InB.came (AG := AG) (I5.out.of (w' := eput2 u5 (w.heap.size + 1) (.string t) (.int .i64 d)) (eput2_heap _ _ _ _ _ (by have := gl.out.1; omega)) (eput2_heap _ _ _ _ _ (by have := gl.out.2.1; omega)) (Nat.le_of_eq (e2size _ _ _ _).symm)) (F5.out.put (by omega) (by have := gl.out.2.2; omega) _ _) (fun i hi => by simp [hi]) 0 (if_pos rfl)
    exact e
  have c3 := eput2_blk (t := 68) R5.out (.string t) (.int .i64 d)
  have c30 := c3.cell 0
  have c31 := c3.cell 1
  change (results _ _).run _ (eput2 u5 (w.heap.size + 1) (.string t) (.int .i64 d)) = .ok _ (eput2 u5 (w.heap.size + 1) (.string t) (.int .i64 d))
  generalize eput2 u5 (w.heap.size + 1) (.string t) (.int .i64 d) = W5 at c30 c31
  simp [results, Try.results29, go_sem, c30, c31]
end Go.Proofs.Ytihealembikkiaa
