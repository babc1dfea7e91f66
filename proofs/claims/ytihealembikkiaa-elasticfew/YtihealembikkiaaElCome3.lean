
/-
  come of layer 15 (elastic) as the plain functions say it; what a sketch is behind it.
-/
import Derived.Test.YtihealembikkiaaElCome2
import Derived.Test.YtihealembikkiaaElCtr
namespace Go.Proofs.Ytihealembikkiaa
open Go.RowKit Fm Bl Lt El L2 L10 L14 Go.Deep Go.Shelf
set_option linter.unusedVariables false
set_option maxRecDepth 20000
set_option linter.unusedSimpArgs false

/-- What goes to Light, as come tells it. -/
def itO : Option (ByteArray × Int) → Value
  | none => .agg #[.string ⟨#[]⟩, .int .i64 0]
  | some y => .agg #[.string y.1, .int .i64 y.2]
theorem own_rowV {w : World} {Bd : Nat} {v : Value} {l : List Ent} (h : w.ownsRow Bd 76 3 v l.length (eCells l)) (n0 : 0 < l.length) : ∃ g cap, v = .slice (some ⟨g, 0, none⟩) l.length cap ∧ Bd ≤ g ∧ l.length ≤ cap ∧ RowV w g 76 (l.length * 3) (cE l) := by
  rcases h.2 with ⟨_, z⟩ | ⟨g, cap, cur, hv, hb, hg, hc, _, _, hx⟩
  · omega
  · refine ⟨g, cap, hv, hb, hc, cur, hg, fun j hj => ?_⟩
    obtain ⟨u, hu⟩ : ∃ u, (eCells l)[j]? = some u := ⟨_, List.getElem?_eq_getElem (by rw [eCells_len]; exact hj)⟩
    have e : cE l j = u := by unfold cE; rw [hu]; rfl
    rw [e]
    rw [← hx, List.getElem?_take, if_pos hj, Array.getElem?_toList] at hu
    exact hu
theorem own_InB {w : World} {Bd g n p : Nat} {V : Nat → Value} {AG : Nat → Int} {es : List Ent} (h : RowK w g n V AG) (own : w.ownsRow Bd 76 3 (V p) es.length (eCells es)) (ne : (V p).ownBlock ≠ some g) (bg : Bd ≤ g) (pn : p < n) (bl : Bd ≤ w.heap.size) (n0 : 0 < es.length) : ∃ gp cap, InB w Bd g n p gp cap V AG es := by
  obtain ⟨gp, cap, hv, hb, hc, hr⟩ := own_rowV own n0
  exact ⟨gp, cap, h, hv, hc, hr, fun z => ne (by rw [hv, z]; rfl), bg, hb, pn, bl⟩
theorem ecome_ok (w : World) (Bd g n p cb : Nat) (V : Nat → Value) (AG : Nat → Int) (es : List Ent) (S room votes LS LM : Int) (rv : Value) (s : ByteArray) (pn : p < n) (nc : n ≤ cb) (el : es.length ≤ 1000) (PC : Hid (∀ u, Below w.heap.size w u → Calls Try.prog 53 #[.agg #[.int .u64 S, .int .i64 room, .int .i64 votes, .slice (some ⟨g, 0, none⟩) n cb, .int .u64 LS, .int .i64 LM, rv], .string s] u fun e w' => e = .returned (.int .i64 (p : Int)) ∧ Below u.heap.size u w')) (h : RowK w g n V AG) (own : w.ownsRow Bd 76 3 (V p) es.length (eCells es)) (ne : (V p).ownBlock ≠ some g) (bg : Bd ≤ g) (bl : Bd ≤ w.heap.size) (rb : RightB room ⟨es, AG p⟩) (r1 : 1 ≤ room) (v1 : 1 ≤ votes) (v2 : votes ≤ 64) (b' : Bkt) (o : Option (ByteArray × Int)) (ha : El.addB room.toNat votes ⟨es, AG p⟩ s = some (b', o)) :
    Calls Try.prog 29 #[.agg #[.int .u64 S, .int .i64 room, .int .i64 votes, .slice (some ⟨g, 0, none⟩) n cb, .int .u64 LS, .int .i64 LM, rv], .string s] w fun e w' => e = .returned (.tuple #[itO o, .int .i64 0]) ∧ CameP w w' Bd g n p V AG b' := by
  obtain ⟨rl, ra0, ra1, re⟩ := rb
  simp only at rl ra0 ra1 re
  cases ga : atE es s with
  | some i =>
    obtain ⟨e, he, _⟩ := atE_some ga
    have r := re i e he
    rw [addB_at (b := ⟨es, AG p⟩) ga he] at ha
    obtain ⟨gp, cap, hI⟩ := own_InB h own ne bg pn bl (by have := (List.getElem?_eq_some_iff.1 he).1; omega)
    by_cases m : e.v + 1 > 1099511627776
    · rw [if_pos m] at ha; cases ha
    · rw [if_neg m] at ha
      cases ha
      exact ecome_at w Bd g n p cb V AG es S room votes LS LM rv s pn nc el PC gp cap hI i e.k e.v e.f ga he (by omega) (by omega)
  | none =>
    by_cases r : es.length < room.toNat
    · rw [addB_room (b := ⟨es, AG p⟩) ga r] at ha
      cases ha
      exact ecome_room w Bd g n p cb V AG es S room votes LS LM rv s pn nc el PC h own ne bg bl ga (by omega)
    · by_cases a : AG p + 1 > 1099511627776
      · rw [addB_full (b := ⟨es, AG p⟩) ga r a] at ha; cases ha
      · have n0 : 0 < es.length := by omega
        obtain ⟨gp, cap, hI⟩ := own_InB h own ne bg pn bl n0
        obtain ⟨e, he⟩ : ∃ e, es[lowAt es]? = some e := ⟨_, List.getElem?_eq_getElem (lowAt_lt n0)⟩
        have r3 := re _ e he
        rw [addB_low (b := ⟨es, AG p⟩) ga r a he] at ha
        by_cases c : AG p + 1 ≥ votes * e.v
        · rw [if_pos c] at ha
          cases ha
          exact ecome_in w Bd g n p cb V AG es S room votes LS LM rv s pn nc el PC gp cap hI ga (by omega) ra0 (by omega) e.k e.v e.f he v1 v2 r3.1 r3.2.1 (by omega)
        · rw [if_neg c] at ha
          cases ha
          exact ecome_out w Bd g n p cb V AG es S room votes LS LM rv s pn nc el PC gp cap hI ga (by omega) ra0 (by omega) e.k e.v e.f he v1 v2 r3.1 r3.2.1 (by omega)
theorem ecome_no (w : World) (Bd g n p cb : Nat) (V : Nat → Value) (AG : Nat → Int) (es : List Ent) (S room votes LS LM : Int) (rv : Value) (s : ByteArray) (pn : p < n) (nc : n ≤ cb) (el : es.length ≤ 1000) (PC : Hid (∀ u, Below w.heap.size w u → Calls Try.prog 53 #[.agg #[.int .u64 S, .int .i64 room, .int .i64 votes, .slice (some ⟨g, 0, none⟩) n cb, .int .u64 LS, .int .i64 LM, rv], .string s] u fun e w' => e = .returned (.int .i64 (p : Int)) ∧ Below u.heap.size u w')) (h : RowK w g n V AG) (own : w.ownsRow Bd 76 3 (V p) es.length (eCells es)) (ne : (V p).ownBlock ≠ some g) (bg : Bd ≤ g) (bl : Bd ≤ w.heap.size) (rb : RightB room ⟨es, AG p⟩) (r1 : 1 ≤ room) (ha : El.addB room.toNat votes ⟨es, AG p⟩ s = none) :
    Calls Try.prog 29 #[.agg #[.int .u64 S, .int .i64 room, .int .i64 votes, .slice (some ⟨g, 0, none⟩) n cb, .int .u64 LS, .int .i64 LM, rv], .string s] w fun e w' => e = .returned (.tuple #[.agg #[.string ⟨#[]⟩, .int .i64 0], .int .i64 5]) ∧ Below w.heap.size w w' := by
  obtain ⟨rl, ra0, ra1, re⟩ := rb
  simp only at rl ra0 ra1 re
  cases ga : atE es s with
  | some i =>
    obtain ⟨e, he, _⟩ := atE_some ga
    have r := re i e he
    rw [addB_at (b := ⟨es, AG p⟩) ga he] at ha
    obtain ⟨gp, cap, hI⟩ := own_InB h own ne bg pn bl (by have := (List.getElem?_eq_some_iff.1 he).1; omega)
    by_cases m : e.v + 1 > 1099511627776
    · have ev : e = ⟨e.k, 1099511627776, e.f⟩ := by
        obtain ⟨k, v, f⟩ := e
        simp only at m r
        have : v = 1099511627776 := by omega
        rw [this]
      rw [ev] at he
      exact ecome_at_full w Bd g n p cb V AG es S room votes LS LM rv s pn nc el PC gp cap hI i e.k e.f ga he
    · rw [if_neg m] at ha; cases ha
  | none =>
    by_cases r : es.length < room.toNat
    · rw [addB_room (b := ⟨es, AG p⟩) ga r] at ha; cases ha
    · have n0 : 0 < es.length := by omega
      obtain ⟨gp, cap, hI⟩ := own_InB h own ne bg pn bl n0
      by_cases a : AG p + 1 > 1099511627776
      · exact ecome_full w Bd g n p cb V AG es S room votes LS LM rv s pn nc el PC gp cap hI ga (by omega) (by omega)
      · obtain ⟨e, he⟩ : ∃ e, es[lowAt es]? = some e := ⟨_, List.getElem?_eq_getElem (lowAt_lt n0)⟩
        rw [addB_low (b := ⟨es, AG p⟩) ga r a he] at ha
        split at ha <;> cases ha
/-- Buckets by their row and their entries. -/
theorem bkts_of {w : World} {g n cap : Nat} {V : Nat → Value} {AG : Nat → Int} {bs : List Bkt} (h : RowK w g n V AG) (hn : n = bs.length) (hc : n ≤ cap) (a : ∀ (i : Nat) (x : Bkt), bs[i]? = some x → AG i = x.ag ∧ EntsE w (V i) x.es) : BktsE w (.slice (some ⟨g, 0, none⟩) n cap) bs := by
  refine ⟨_, cap, g, 0, by rw [hn], by omega, fun _ => rfl, fun i x hx => ?_⟩
  have li := (List.getElem?_eq_some_iff.1 hx).1
  obtain ⟨a1, a2⟩ := a i x hx
  rw [Nat.zero_add]
  exact ⟨V i, h.ents (by omega), by rw [h.ag (by omega), a1], a2⟩
theorem CopB.bkts {w0 w : World} {g n p cap : Nat} {bs : List Bkt} {V : Nat → Value} {AG : Nat → Int} (h : CopB w0 w g n p n bs V AG) (hn : n = bs.length) (hc : n ≤ cap) : Held (fun q => w0.heap.size ≤ q) (fun u => BktsE u (.slice (some ⟨g, 0, none⟩) n cap) bs) w := fun u e => by
  refine bkts_of (h.row.of (e.2 g h.base h.row.lt)) hn hc fun i x hx => ⟨h.ags i x hx, ?_⟩
  have li := (List.getElem?_eq_some_iff.1 hx).1
  by_cases ip : i = p
  · subst ip
    obtain ⟨o1, o2⟩ := h.own x (by omega) hx
    exact ents_held o1 (fun q hq => (o1.lt q hq).1) u e
  · exact h.new i x (by omega) ip hx u (e.mono fun q _ d => d.1)
/-- .. with a key that came. -/
theorem came_bkts {w0 w1 w2 w3 : World} {g n p cap : Nat} {bs : List Bkt} {V : Nat → Value} {AG : Nat → Int} {b' : Bkt} (h : CopB w0 w1 g n p n bs V AG) (sm : Same (fun q => w0.heap.size ≤ q) w1 w2) (c : CameP w2 w3 w0.heap.size g n p V AG b') (hn : n = bs.length) (hc : n ≤ cap) (pn : p < n) :
    Held (fun q => w0.heap.size ≤ q) (fun u => BktsE u (.slice (some ⟨g, 0, none⟩) n cap) (bs.set p b')) w3 := fun u e => by
  obtain ⟨V', AG', gp, row, hag, oth, hb, ents, s2, _⟩ := c
  refine bkts_of (row.of (e.2 g h.base row.lt)) (by rw [List.length_set]; exact hn) hc fun i x hx => ?_
  have li : i < n := by have := (List.getElem?_eq_some_iff.1 hx).1; rw [List.length_set] at this; omega
  by_cases ip : i = p
  · subst ip
    rw [List.getElem?_set, if_pos rfl, if_pos (by omega)] at hx
    cases hx
    exact ⟨hag, ents u (e.mono fun q _ d => by rw [d]; exact hb)⟩
  · rw [List.getElem?_set, if_neg (fun z => ip z.symm)] at hx
    rw [(oth i ip).1, (oth i ip).2]
    refine ⟨h.ags i x hx, ?_⟩
    obtain ⟨y, hy⟩ : ∃ y, bs[p]? = some y := ⟨_, List.getElem?_eq_getElem (by omega)⟩
    have s3 : Same (fun q => w0.heap.size ≤ q ∧ q ≠ g ∧ some q ≠ ownP V p n) w1 u := (sm.mono fun q _ d => d.1).trans ((s2.mono fun q _ d => ⟨d.2.1, by have := d.2.2; unfold ownP at this; rw [if_pos pn] at this; exact this⟩).trans (e.mono fun q _ d => d.1))
    exact h.new i x (by omega) ip hx u s3
theorem small_of {S room votes : Int} {bs : List Bkt} {R c : Nat} {Z : Nat → Nat → Int} (h : RightE (elF S room votes bs R c Z)) (k : ShortE bs) : SmallE (elF S room votes bs R c Z) := by
  obtain ⟨h1, h2, h3, h4, h5, h6, h7, h8, h9, h10⟩ := h
  have ok := h7.ok
  refine ⟨by have := h6; omega, ⟨by have := ok.2.2.2.1; show R < 20; have : R ≤ 7 := this; omega, fun i hi => by have : c ≤ 256 := ok.2.2.2.2.2.1; show c ≤ 300; omega⟩, fun i b hb => ⟨?_, fun j e he => k i b hb j e he⟩⟩
  have := (h10 i b hb).1
  omega
theorem light_none {S : Int} {R c : Nat} {Z : Nat → Nat → Int} (ok : OkP 255 R c Z) (s : ByteArray) (i j : Nat) (hi : i < R) (hj : j < c) : addZ S 255 c Z s 0 i j = Z i j := by
  unfold addZ capF
  have := (ok.2.2.2.2.2.2 i hi j hj).2
  split
  · rw [if_pos (by omega)]; omega
  · rfl
end Go.Proofs.Ytihealembikkiaa
