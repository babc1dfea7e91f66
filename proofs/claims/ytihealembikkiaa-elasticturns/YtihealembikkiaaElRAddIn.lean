
/-
  The document's Add of layer 15 (elastic), where an entry goes to the light ones.
-/
import Derived.Test.YtihealembikkiaaElRAdd
namespace Go.Proofs.Ytihealembikkiaa
open Go.RowKit Fm Bl Lt El Hv L2 L10 L14 Go.Deep Go.Shelf
set_option linter.unusedVariables false
set_option maxRecDepth 20000
set_option linter.unusedSimpArgs false

/-- What the region of the put keeps. -/
def SP (w tp : World) (g7 : Nat) (w2 : World) : Prop := Same (fun q => q ≠ g7) tp w2 ∧ Below w.heap.size w w2
set_option maxHeartbeats 6400000 in
theorem eradd_in (w : World) (S room votes LS LM : Int) (LA : Option Addr) (bb o n cap R lcap p c : Nat) (bs : List Bkt) (b : Bkt) (Z : Nat → Nat → Int) (s : ByteArray) (PC : Hid (∀ u, Below w.heap.size w u → Calls Try.prog 26 #[.agg #[.int .u64 S, .int .i64 room, .int .i64 votes, .slice (some ⟨bb, o, none⟩) n cap, .int .u64 LS, .int .i64 LM, .slice LA R lcap], .string s] u fun e w' => e = .returned (.int .i64 (p : Int)) ∧ Below u.heap.size u w')) (H4 : Hid (∀ (i : Nat) (x : Bkt), bs[i]? = some x → ∃ ev, w.cell? ⟨bb, o + i * 2, none⟩ = some ev ∧ w.cell? ⟨bb, o + i * 2 + 1, none⟩ = some (.int .i64 x.ag) ∧ EntsE w ev x.es)) (HN : Hid (n = bs.length)) (HR : Hid (RowsI w (.slice LA R lcap) R (fun _ => c) Z)) (pn : p < n) (n1 : n ≤ 256) (hb : bs[p]? = some b) (rb : RightB room b) (r1 : 1 ≤ room) (r8 : room ≤ 8) (v1 : 1 ≤ votes) (v2 : votes ≤ 64) (ZA : Nat → Nat → Int) (ga : atE b.es s = none) (hr : ¬ (b.es.length : Int) < room) (dm : ¬ b.ag + 1 > 1099511627776) (le : Ent) (hl : b.es[lowAt b.es]? = some le) (hc : b.ag + 1 ≥ votes * le.v) (LC : Hid (∀ u, Below w.heap.size w u → Calls Try.prog 45 #[.agg #[.int .u64 LS, .int .i64 LM, .slice LA R lcap], .string le.k, .int .i64 le.v] u (ToldH u LS LM R c ZA))) :
    Calls Try.prog 19 #[.agg #[.int .u64 S, .int .i64 room, .int .i64 votes, .slice (some ⟨bb, o, none⟩) n cap, .int .u64 LS, .int .i64 LM, .slice LA R lcap], .string s] w fun e w' => ∃ x', e = .returned (.tuple #[x', .bool true]) ∧ ElAt w' x' ⟨S, room, votes, bs.set p ⟨b.es.set (lowAt b.es) ⟨s, 1, true⟩, 0⟩, LS, LM, R, fun _ => c, ZA⟩ ∧ Below w.heap.size w w' := by
  obtain ⟨es, ag⟩ := b
  have HB := hidE hb
  obtain ⟨rl, ra0, ra1, re⟩ := rb
  simp only at rl ra0 ra1 re
  have RE := hidE re
  obtain ⟨ev, q1, q2, q3⟩ := H4.out p _ hb
  simp only at q2 q3
  have EA := hidE fun u (z : Below w.heap.size w u) => eat_any u ev ag es s (q3.keep (keep_of_below z)) (by omega)
  have HE0 := hidE q3
  obtain ⟨A2, cp2, be, oe, rfl, hc2, h5, h6⟩ := q3
  have H5 := hidE h5
  have H6 := hidE h6
  obtain ⟨m, hm⟩ : ∃ m, m = es.length := ⟨_, rfl⟩
  have HM := hidE hm
  rw [← hm] at EA q1 hc2 rl HE0
  rw [atI_none ga] at EA
  have mr : ¬ (m : Int) < room := by have := HM.out; simp only at hr; omega
  have m1 : m ≤ 1000 := by omega
  have m0 : 0 < m := by omega
  simp only at dm hl hc
  have HLW := hidE hl
  have HCV := hidE hc
  clear ga hr hl hc
  obtain rfl := H5.out (by rw [← HM.out]; omega)
  have BX : Hid (Below w.heap.size w ((w.alloc (.cells #[.int .u64 S, .int .i64 room, .int .i64 votes, .slice (some ⟨bb, o, none⟩) n cap, .int .u64 LS, .int .i64 LM, .slice LA R lcap] 32)).alloc (.cells #[.int .u64 0, .int .i64 0, .int .i64 0, .slice none 0 0, .int .u64 0, .int .i64 0, .slice none 0 0] 32))) := (bel_alloc _ _).alloc (by simp) _
  have KX : Hid (Blk ((w.alloc (.cells #[.int .u64 S, .int .i64 room, .int .i64 votes, .slice (some ⟨bb, o, none⟩) n cap, .int .u64 LS, .int .i64 LM, .slice LA R lcap] 32)).alloc (.cells #[.int .u64 0, .int .i64 0, .int .i64 0, .slice none 0 0, .int .u64 0, .int .i64 0, .slice none 0 0] 32)) w.heap.size 32 #[.int .u64 S, .int .i64 room, .int .i64 votes, .slice (some ⟨bb, o, none⟩) n cap, .int .u64 LS, .int .i64 LM, .slice LA R lcap]) := (Blk.new _ _ _).alloc _
  have KR : Hid (Blk ((w.alloc (.cells #[.int .u64 S, .int .i64 room, .int .i64 votes, .slice (some ⟨bb, o, none⟩) n cap, .int .u64 LS, .int .i64 LM, .slice LA R lcap] 32)).alloc (.cells #[.int .u64 0, .int .i64 0, .int .i64 0, .slice none 0 0, .int .u64 0, .int .i64 0, .slice none 0 0] 32)) (w.heap.size + 1) 32 #[.int .u64 0, .int .i64 0, .int .i64 0, .slice none 0 0, .int .u64 0, .int .i64 0, .slice none 0 0]) := by
    have e := Blk.new (w.alloc (.cells #[.int .u64 S, .int .i64 room, .int .i64 votes, .slice (some ⟨bb, o, none⟩) n cap, .int .u64 LS, .int .i64 LM, .slice LA R lcap] 32)) 32 #[.int .u64 0, .int .i64 0, .int .i64 0, .slice none 0 0, .int .u64 0, .int .i64 0, .slice none 0 0]
    simp only [World.size_alloc] at e
    exact e
  have pb : (p : Int) < (n : Int) := by omega
  have p0 : (0 : Int) ≤ (p : Int) := by omega
  have Q1 := hidE q1
  have Q2 := hidE q2
  clear hb re h5 h6 hm q1 q2 hc2
  go_enter Try.func19, Try.ntmps19
  go_wp2_with fail
  generalize ((w.alloc (.cells #[.int .u64 S, .int .i64 room, .int .i64 votes, .slice (some ⟨bb, o, none⟩) n cap, .int .u64 LS, .int .i64 LM, .slice LA R lcap] 32)).alloc (.cells #[.int .u64 0, .int .i64 0, .int .i64 0, .slice none 0 0, .int .u64 0, .int .i64 0, .slice none 0 0] 32)) = X at BX KX KR ⊢
  refine (PC.out _ BX.out).mono ?_
  rintro e u1 ⟨rfl, b1⟩
  have B1 := hidE (bel_trans BX.out b1)
  have K1 := hidE (KX.out.since b1)
  have R1 := hidE (KR.out.since b1)
  have x3 : u1.cell? ⟨w.heap.size, 3, none⟩ = some (.slice (some ⟨bb, o, none⟩) n cap) := K1.out.cell 3
  have q1 := keep_of_below B1.out _ _ Q1.out
  have q2 := keep_of_below B1.out _ _ Q2.out
  have BA : Hid (Below u1.heap.size u1 (u1.alloc (.cells #[.slice (some ⟨be, oe, none⟩) m cp2, .int .i64 ag] 74))) := bel_alloc _ _
  have KA : Hid (Blk (u1.alloc (.cells #[.slice (some ⟨be, oe, none⟩) m cp2, .int .i64 ag] 74)) u1.heap.size 74 #[.slice (some ⟨be, oe, none⟩) m cp2, .int .i64 ag]) := Blk.new _ _ _
  clear b1 BX KX KR PC
  go_wp2_with fail
  have B2 := hidE (bel_trans B1.out BA.out)
  have K2 := hidE (K1.out.since BA.out)
  have R2 := hidE (R1.out.since BA.out)
  have G7 : Hid (w.heap.size + 1 < u1.heap.size) := R1.out.lt
  clear x3 q1 q2 BA B1 K1 R1 Q1 Q2
  generalize (u1.alloc (.cells #[.slice (some ⟨be, oe, none⟩) m cp2, .int .i64 ag] 74)) = Y at KA B2 K2 R2 ⊢
  generalize u1.heap.size = g7 at KA G7 ⊢
  refine (EA.out _ B2.out).mono ?_
  rintro e u2 ⟨rfl, b2⟩
  have B3 := hidE (bel_trans B2.out b2)
  have K3 := hidE (K2.out.since b2)
  have R3 := hidE (R2.out.since b2)
  have K7 := hidE (KA.out.since b2)
  clear b2 B2 K2 R2 KA EA
  have y0 : u2.cell? ⟨g7, 0, none⟩ = some (.slice (some ⟨be, oe, none⟩) m cp2) := K7.out.cell 0
  have x1 : u2.cell? ⟨w.heap.size, 1, none⟩ = some (.int .i64 room) := K3.out.cell 1
  have y1 : u2.cell? ⟨g7, 1, none⟩ = some (.int .i64 ag) := K7.out.cell 1
  have f1 := K7.out.frozen 1
  have KU : Hid (Blk (u2.setCell ⟨g7, 1, none⟩ (.int .i64 (ag + 1))) g7 74 #[.slice (some ⟨be, oe, none⟩) m cp2, .int .i64 (ag + 1)]) := hidE (by
    have e := K7.out.set 1 (.int .i64 (ag + 1))
    simpa using e)
  have GX := G7.out
  have RU : Hid (Blk (u2.setCell ⟨g7, 1, none⟩ (.int .i64 (ag + 1))) (w.heap.size + 1) 32 #[.int .u64 0, .int .i64 0, .int .i64 0, .slice none 0 0, .int .u64 0, .int .i64 0, .slice none 0 0]) := R3.out.other (a := ⟨g7, 1, none⟩) (by show w.heap.size + 1 ≠ g7; omega) _
  have KXU : Hid (Blk (u2.setCell ⟨g7, 1, none⟩ (.int .i64 (ag + 1))) w.heap.size 32 #[.int .u64 S, .int .i64 room, .int .i64 votes, .slice (some ⟨bb, o, none⟩) n cap, .int .u64 LS, .int .i64 LM, .slice LA R lcap]) := K3.out.other (a := ⟨g7, 1, none⟩) (by show w.heap.size ≠ g7; omega) _
  have BU : Hid (Below w.heap.size w (u2.setCell ⟨g7, 1, none⟩ (.int .i64 (ag + 1)))) := B3.out.setCell (p := ⟨g7, 1, none⟩) (by show w.heap.size ≤ g7; omega) _
  have y2 : (u2.setCell ⟨g7, 1, none⟩ (.int .i64 (ag + 1))).cell? ⟨g7, 1, none⟩ = some (.int .i64 (ag + 1)) := KU.out.cell 1
  clear GX
  obtain ⟨e0, he0⟩ : ∃ e0, es[0]? = some e0 := ⟨_, List.getElem?_eq_getElem (by rw [← HM.out]; exact m0)⟩
  obtain ⟨k0, d0, f0⟩ := e0
  obtain ⟨c1, c2, c3⟩ := H6.out 0 _ he0
  rw [Nat.zero_mul, Nat.add_zero] at c1 c2 c3
  simp only at c1 c2 c3
  have HE00 := hidE he0
  have c1 := keep_of_below BU.out _ _ c1
  have c2 := keep_of_below BU.out _ _ c2
  have c3 := keep_of_below BU.out _ _ c3
  have z0 : (u2.setCell ⟨g7, 1, none⟩ (.int .i64 (ag + 1))).cell? ⟨g7, 0, none⟩ = some (.slice (some ⟨be, oe, none⟩) m cp2) := KU.out.cell 0
  have m0i : (0 : Int) < (m : Int) := by omega
  have BV : Hid (Below (u2.setCell ⟨g7, 1, none⟩ (.int .i64 (ag + 1))).heap.size (u2.setCell ⟨g7, 1, none⟩ (.int .i64 (ag + 1))) ((u2.setCell ⟨g7, 1, none⟩ (.int .i64 (ag + 1))).alloc (.cells #[.string k0, .int .i64 d0, .bool f0] 77))) := bel_alloc _ _
  have KV : Hid (Blk ((u2.setCell ⟨g7, 1, none⟩ (.int .i64 (ag + 1))).alloc (.cells #[.string k0, .int .i64 d0, .bool f0] 77)) u2.heap.size 77 #[.string k0, .int .i64 d0, .bool f0]) := hidE (by
    have e := Blk.new (u2.setCell ⟨g7, 1, none⟩ (.int .i64 (ag + 1))) 77 #[.string k0, .int .i64 d0, .bool f0]
    rw [size_setCell] at e
    exact e)
  clear he0
  go_upto_region 17 with fail
  clear x1 y1 f1 y0 y2 c1 c2 c3 z0
  have G11 : Hid (w.heap.size + 1 < u2.heap.size ∧ g7 < u2.heap.size) := ⟨R3.out.lt, K7.out.lt⟩
  have KV7 := hidE (KU.out.since BV.out)
  have RV := hidE (RU.out.since BV.out)
  have KXV := hidE (KXU.out.since BV.out)
  have BVW := hidE (bel_trans BU.out BV.out)
  clear BV KU RU KXU BU B3 K3 R3 K7
  generalize (u2.setCell ⟨g7, 1, none⟩ (.int .i64 (ag + 1))).alloc (.cells #[.string k0, .int .i64 d0, .bool f0] 77) = V at KV KV7 RV KXV BVW ⊢
  generalize u2.heap.size = g11 at KV G11 ⊢
  have z0 : V.cell? ⟨g7, 0, none⟩ = some (.slice (some ⟨be, oe, none⟩) m cp2) := KV7.out.cell 0
  go_wp2_with fail
  clear z0
  go_loopg [13, 78] m (fun gk s13 i wr => ∃ (kk q : Nat) (t : ByteArray) (d : Int) (f : Bool), (gk = m - kk ∧ kk ≤ m ∧ q = lowE es kk ∧ es[q]? = some ⟨t, d, f⟩ ∧ Blk wr g11 77 #[.string t, .int .i64 d, .bool f] ∧ Same (fun q => q ≠ g11) V wr ∧ Below w.heap.size w wr) ∧ i = .int .i64 (kk : Int))
  case atStart => exact ⟨0, 0, k0, d0, f0, ⟨rfl, by omega, rfl, HE00.out, KV.out, ⟨Nat.le_refl _, fun _ _ _ => rfl⟩, BVW.out⟩, rfl⟩
  case round =>
    obtain ⟨kk, q, t, d, f, ⟨hgk, hk, hq, hqe, hkb, hsm, hbl⟩, rfl⟩ := hrel
    have HK := hidE hgk
    have HQ := hidE (And.intro hq hqe)
    have KB := hidE hkb
    have SM := hidE hsm
    have BL := hidE hbl
    have l1 : wr.cell? ⟨g11, 1, none⟩ = some (.int .i64 d) := hkb.cell 1
    clear hgk hq hqe hkb hsm hbl
    by_cases hz : kk < m
    · obtain ⟨y, hy⟩ : ∃ y, es[kk]? = some y := ⟨_, List.getElem?_eq_getElem (by rw [← HM.out]; exact hz)⟩
      obtain ⟨c1, c2, c3⟩ := H6.out kk y hy
      have c1 := keep_of_below BL.out _ _ c1
      have c2 := keep_of_below BL.out _ _ c2
      have c3 := keep_of_below BL.out _ _ c3
      have NX : Hid (lowE es (kk + 1) = if y.v < d then kk else q) := by
        show lowE es (kk + 1) = _
        rw [lowE, ← HQ.out.1, hy, HQ.out.2]
      have HY := hidE hy
      clear hy
      obtain ⟨ty, dy, fy⟩ := y
      simp only at c1 c2 c3 NX
      have bk : (kk : Int) < (m : Int) := by omega
      have bk0 : (0 : Int) ≤ (kk : Int) := by omega
      have BA : Hid (Below wr.heap.size wr (wr.alloc (.cells #[.string ty, .int .i64 dy, .bool fy] 77))) := bel_alloc _ _
      have KA : Hid (Blk (wr.alloc (.cells #[.string ty, .int .i64 dy, .bool fy] 77)) wr.heap.size 77 #[.string ty, .int .i64 dy, .bool fy]) := Blk.new _ _ _
      go_upto_region 20 with fail
      have KB2 := hidE (KB.out.since BA.out)
      have SM2 : Hid (Same (fun q => q ≠ g11) V (wr.alloc (.cells #[.string ty, .int .i64 dy, .bool fy] 77))) := SM.out.trans (Same.below BA.out)
      have BL2 := hidE (bel_trans BL.out BA.out)
      clear BA c1 c2 c3 l1 KB SM BL
      generalize wr.alloc (.cells #[.string ty, .int .i64 dy, .bool fy] 77) = Q at KA KB2 SM2 BL2 ⊢
      generalize wr.heap.size = g13 at KA ⊢
      have l1 : Q.cell? ⟨g11, 1, none⟩ = some (.int .i64 d) := KB2.out.cell 1
      have a0 : Q.cell? ⟨g13, 0, none⟩ = some (.string ty) := KA.out.cell 0
      have a1 : Q.cell? ⟨g13, 1, none⟩ = some (.int .i64 dy) := KA.out.cell 1
      have a2 : Q.cell? ⟨g13, 2, none⟩ = some (.bool fy) := KA.out.cell 2
      by_cases lt : dy < d
      · rw [if_pos lt] at NX
        have l0 : Q.cell? ⟨g11, 0, none⟩ = some (.string t) := KB2.out.cell 0
        have l2 : Q.cell? ⟨g11, 2, none⟩ = some (.bool f) := KB2.out.cell 2
        have e0 := KB2.out.frozen 0
        have e1 := KB2.out.frozen 1
        have e2 := KB2.out.frozen 2
        go_wp2_with fail
        go_roundg (m - (kk + 1))
        case measure => have := HK.out; omega
        case rel =>
          have KE := eput3_blk KB2.out (.string ty) (.int .i64 dy) (.bool fy)
          exact ⟨kk + 1, kk, ty, dy, fy, ⟨rfl, by omega, NX.out.symm, HY.out, KE, SM2.out.trans ⟨by show Q.heap.size ≤ (eput3 Q g11 _ _ _).heap.size; unfold eput3; rw [size_setCell, size_setCell, size_setCell]; exact Nat.le_refl _, fun q d hq => eput3_heap _ _ _ _ _ q d⟩, eput3_below BL2.out (by have := G11.out.1; omega) _ _ _⟩, by go_num⟩
      · rw [if_neg lt] at NX
        go_wp2_with fail
        go_roundg (m - (kk + 1))
        case measure => have := HK.out; omega
        case rel => exact ⟨kk + 1, q, t, d, f, ⟨rfl, by omega, NX.out.symm, HQ.out.2, KB2.out, SM2.out, BL2.out⟩, by go_num⟩
    · have bk : ¬ (kk : Int) < (m : Int) := by omega
      have e : kk = m := by omega
      have LOW : Hid (es[lowAt es]? = some ⟨t, d, f⟩) := by
        have h1 := HQ.out.1
        have h2 := HQ.out.2
        rw [e, HM.out] at h1
        show es[lowE es es.length]? = _
        rw [← h1]; exact h2
      have E2 := hidE e
      have le2 := RE.out _ _ LOW.out
      simp only at le2
      have d1 := le2.1
      have d2 := le2.2.1
      have LAT := hidE le2.2.2
      have fr : ∀ q, q ≠ g11 → q < V.heap.size → wr.heap[q]? = V.heap[q]? := fun q hq hl => SM.out.2 q hq hl
      have KW7 : Hid (Blk wr g7 74 #[.slice (some ⟨be, oe, none⟩) m cp2, .int .i64 (ag + 1)]) := KV7.out.of (fr _ (by have := G11.out.2; omega) KV7.out.lt)
      have RW : Hid (Blk wr (w.heap.size + 1) 32 #[.int .u64 0, .int .i64 0, .int .i64 0, .slice none 0 0, .int .u64 0, .int .i64 0, .slice none 0 0]) := RV.out.of (fr _ (by have := G11.out.1; omega) RV.out.lt)
      have KXW : Hid (Blk wr w.heap.size 32 #[.int .u64 S, .int .i64 room, .int .i64 votes, .slice (some ⟨bb, o, none⟩) n cap, .int .u64 LS, .int .i64 LM, .slice LA R lcap]) := KXV.out.of (fr _ (by have := G11.out.1; omega) KXV.out.lt)
      have y1 : wr.cell? ⟨g7, 1, none⟩ = some (.int .i64 (ag + 1)) := KW7.out.cell 1
      have x2 : wr.cell? ⟨w.heap.size, 2, none⟩ = some (.int .i64 votes) := KXW.out.cell 2
      have mm1 : votes * d ≤ 64 * d := Int.mul_le_mul_of_nonneg_right v2 (by omega)
      have mm0 : 0 ≤ votes * d := Int.mul_nonneg (by omega) (by omega)
      have wm : IntKind.i64.wrap (votes * d) = votes * d := by rw [IntKind.wrap_i64]; omega
      have e11 := LOW.out
      rw [HLW.out] at e11
      cases e11
      have CV : Hid (ag + 1 ≥ votes * d) := hidE (by
        have := HCV.out
        simpa using this)
      have cv := CV.out
      clear e le2 fr SM HQ mm1 mm0 KV7 RV KXV BVW KV
      have W7 : Hid (g7 < wr.heap.size) := KW7.out.lt
      have l0 : wr.cell? ⟨g11, 0, none⟩ = some (.string t) := KB.out.cell 0
      have x4 : wr.cell? ⟨w.heap.size, 4, none⟩ = some (.int .u64 LS) := KXW.out.cell 4
      have x5 : wr.cell? ⟨w.heap.size, 5, none⟩ = some (.int .i64 LM) := KXW.out.cell 5
      have x6 : wr.cell? ⟨w.heap.size, 6, none⟩ = some (.slice LA R lcap) := KXW.out.cell 6
      go_wp2_with fail
      refine (LC.out wr BL.out).mono ?_
      rintro e u6 ⟨xl, rfl, hxl, b6⟩
      obtain ⟨rl9, rfl, hrl⟩ := hxl.at
      obtain ⟨LB, lcb, _, _, rfl, _⟩ := hrl.read
      clear hrl
      have HL6 : Hid (Held (fun q => wr.heap.size ≤ q) (fun u => RowsI u (.slice LB R lcb) R (fun _ => c) ZA) u6) := fun u e => by
        obtain ⟨v, e1, e2⟩ := hxl u e
        simp at e1
        rw [e1]; exact e2
      have KB6 := hidE (KB.out.since b6)
      have K6 := hidE (KXW.out.since b6)
      have R6 := hidE (RW.out.since b6)
      have K76 := hidE (KW7.out.since b6)
      have B6 := hidE (bel_trans BL.out b6)
      have W6 : Hid (w.heap.size + 1 < wr.heap.size) := RW.out.lt
      clear hxl b6 l0 l1 y1 x2 x4 x5 x6 LC
      have x4 : u6.cell? ⟨w.heap.size, 4, none⟩ = some (.int .u64 LS) := K6.out.cell 4
      have x5 : u6.cell? ⟨w.heap.size, 5, none⟩ = some (.int .i64 LM) := K6.out.cell 5
      have x6 : u6.cell? ⟨w.heap.size, 6, none⟩ = some (.slice LA R lcap) := K6.out.cell 6
      have f4 := K6.out.frozen 4
      have f5 := K6.out.frozen 5
      have f6 := K6.out.frozen 6
      go_upto_region 25 with fail
      have KT0 : Hid (Blk (put456 u6 w.heap.size (.int .u64 LS) (.int .i64 LM) (.slice LB R lcb)) w.heap.size 32 #[.int .u64 S, .int .i64 room, .int .i64 votes, .slice (some ⟨bb, o, none⟩) n cap, .int .u64 LS, .int .i64 LM, .slice LB R lcb]) := put456_blk K6.out _ _ _
      have RT0 : Hid (Blk (put456 u6 w.heap.size (.int .u64 LS) (.int .i64 LM) (.slice LB R lcb)) (w.heap.size + 1) 32 #[.int .u64 0, .int .i64 0, .int .i64 0, .slice none 0 0, .int .u64 0, .int .i64 0, .slice none 0 0]) := R6.out.of (put456_heap _ _ _ _ _ _ (by omega))
      have K70 : Hid (Blk (put456 u6 w.heap.size (.int .u64 LS) (.int .i64 LM) (.slice LB R lcb)) g7 74 #[.slice (some ⟨be, oe, none⟩) m cp2, .int .i64 (ag + 1)]) := K76.out.of (put456_heap _ _ _ _ _ _ (by have := G7.out; omega))
      have KB0 : Hid (Blk (put456 u6 w.heap.size (.int .u64 LS) (.int .i64 LM) (.slice LB R lcb)) g11 77 #[.string t, .int .i64 d, .bool f]) := KB6.out.of (put456_heap _ _ _ _ _ _ (by have := G11.out.1; omega))
      have BT0 : Hid (Below w.heap.size w (put456 u6 w.heap.size (.int .u64 LS) (.int .i64 LM) (.slice LB R lcb))) := put456_below B6.out (Nat.le_refl _) _ _ _
      have HLT0 : Hid (Held (fun q => q ≠ w.heap.size ∧ q ≠ w.heap.size + 1 ∧ q ≠ g7) (fun u => RowsI u (.slice LB R lcb) R (fun _ => c) ZA) (put456 u6 w.heap.size (.int .u64 LS) (.int .i64 LM) (.slice LB R lcb))) := (HL6.out.same ⟨by rw [put456_size]; exact Nat.le_refl _, fun q d hq => put456_heap _ _ _ _ _ q (by have := W6.out; omega)⟩).mono fun q _ d => by have := W6.out; have := W7.out; exact ⟨by omega, by omega, by omega⟩
      clear x4 x5 x6 f4 f5 f6 K6 R6 B6 K76 HL6 KB6
      change Code.wp _ _ _ _ (put456 u6 w.heap.size (.int .u64 LS) (.int .i64 LM) (.slice LB R lcb))
      generalize (put456 u6 w.heap.size (.int .u64 LS) (.int .i64 LM) (.slice LB R lcb)) = tp at KT0 RT0 K70 KB0 BT0 HLT0 ⊢
      have AT := hidE fun u (z : Below tp.heap.size tp u) => eat_any u (.slice (some ⟨be, oe, none⟩) m cp2) (ag + 1) es t (HE0.out.keep (keep_of_below (bel_trans BT0.out z))) (by have := HM.out; omega)
      rw [atI_some LAT.out] at AT
      have PU := hidE fun u (z : Below tp.heap.size tp u) => eput_any u (.slice (some ⟨be, oe, none⟩) m cp2) es (lowAt es) ⟨s, 1, true⟩ (HE0.out.keep (keep_of_below (bel_trans BT0.out z))) (by have := HM.out; omega)
      generalize hlo : lowAt es = lo at AT PU
      have HLO := hidE hlo
      clear hlo
      have b0 : tp.cell? ⟨g7, 0, none⟩ = some (.slice (some ⟨be, oe, none⟩) m cp2) := K70.out.cell 0
      have b1 : tp.cell? ⟨g7, 1, none⟩ = some (.int .i64 (ag + 1)) := K70.out.cell 1
      have l0 : tp.cell? ⟨g11, 0, none⟩ = some (.string t) := KB0.out.cell 0
      have G7L : Hid (g7 ≠ g11 ∧ g7 < tp.heap.size ∧ g11 < tp.heap.size) := ⟨by have := G11.out.2; omega, K70.out.lt, KB0.out.lt⟩
      refine letterQ ?_
      intro QQ hQQ
      have Z0 : Hid (SP w tp g7 tp.drew) := ⟨⟨Nat.le_refl _, fun _ _ _ => rfl⟩, BT0.out.drew⟩
      have T0 : Hid (Below tp.heap.size tp tp.drew) := (Below.refl _ _).drew
      refine wp_region_noPanic ?_
      refine wp_region_held_drew (S := fun w2 => SP w tp g7 w2) (by kernel_rfl) Z0.out (fun hHeld => ?_)
      clear hHeld b0 b1 l0
      generalize tp.drew = q0 at Z0 T0 ⊢
      refine wpAnyH_take (i := 0) (v := ?_) rfl (by kernel_rfl) (by kernel_rfl) (by kernel_rfl) (fun _ _ _ h => h) (Or.inl ⟨by rfl, ?_⟩) Z0.out ?_
      rotate_left
      · intro wq hSw; go_simp; first | done | with_reducible rfl
      simp only [List.getElem_toArray, List.getElem_cons_zero, Act.put, List.setIfInBounds_toArray, List.set_cons_zero, List.set_cons_succ]
      refine wpAnyH_take (i := 3) (v := ?_) rfl (by kernel_rfl) (by kernel_rfl) (by kernel_rfl) (fun _ _ _ h => h) (Or.inl ⟨by rfl, ?_⟩) Z0.out ?_
      rotate_left
      · intro wq hSw; go_simp; first | done | with_reducible rfl
      simp only [List.getElem_toArray, List.getElem_cons_zero, List.getElem_cons_succ, Act.put, List.setIfInBounds_toArray, List.set_cons_zero, List.set_cons_succ]
      refine wpAnyH_take (i := 4) (v := ?_) rfl (by kernel_rfl) (by kernel_rfl) (by kernel_rfl) (fun _ _ _ h => h) (Or.inl ⟨by rfl, ?_⟩) Z0.out ?_
      rotate_left
      · intro wq hSw; have cl0 := (KB0.out.of (hSw.1.2 g11 G7L.out.1.symm G7L.out.2.2)).cell 0; go_simp; first | done | with_reducible rfl
      simp only [List.getElem_toArray, List.getElem_cons_zero, List.getElem_cons_succ, Act.put, List.setIfInBounds_toArray, List.set_cons_zero, List.set_cons_succ]
      refine wpAnyH_take (i := 6) (v := ?_) rfl (by kernel_rfl) (by kernel_rfl) (by kernel_rfl) (fun _ _ _ h => h) (Or.inl ⟨by rfl, ?_⟩) Z0.out ?_
      rotate_left
      · intro wq hSw; go_simp; first | done | with_reducible rfl
      simp only [List.getElem_toArray, List.getElem_cons_zero, List.getElem_cons_succ, Act.put, List.setIfInBounds_toArray, List.set_cons_zero, List.set_cons_succ]
      refine wpAnyH_take (i := 7) (v := ?_) rfl (by kernel_rfl) (by kernel_rfl) (by kernel_rfl) (fun _ _ _ h => h) (Or.inl ⟨by rfl, ?_⟩) Z0.out ?_
      rotate_left
      · intro wq hSw; go_simp; first | done | with_reducible rfl
      simp only [List.getElem_toArray, List.getElem_cons_zero, List.getElem_cons_succ, Act.put, List.setIfInBounds_toArray, List.set_cons_zero, List.set_cons_succ]
      refine wpAnyH_ready (rs := [1, 2]) (by kernel_rfl) (by simp) ?_
      refine AllReadyH.cons rfl (fun K hK => ?_) ?_
      · have b0 : q0.cell? ⟨g7, 0, none⟩ = some (.slice (some ⟨be, oe, none⟩) m cp2) := (K70.out.since T0.out).cell 0
        have b1 : q0.cell? ⟨g7, 1, none⟩ = some (.int .i64 (ag + 1)) := (K70.out.since T0.out).cell 1
        go_simp
        clear b0 b1
        refine hK.out _ _ (by exact Z0.out) (fun hHeld => ?_)
        clear hK K hHeld
        refine wpAnyH_ready (rs := [2]) (by kernel_rfl) (by simp) ?_
        refine AllReadyH.cons rfl (fun K hK => ?_) ?_
        · have b0 : q0.cell? ⟨g7, 0, none⟩ = some (.slice (some ⟨be, oe, none⟩) m cp2) := (K70.out.since T0.out).cell 0
          have b1 : q0.cell? ⟨g7, 1, none⟩ = some (.int .i64 (ag + 1)) := (K70.out.since T0.out).cell 1
          go_simp
          clear b0 b1
          refine hK.out _ _ (by exact Z0.out) (fun hHeld => ?_)
          clear hK K hHeld
          refine wpAnyH_ready (rs := [5]) (by kernel_rfl) (by simp) ?_
          refine AllReadyH.cons rfl (fun K hK => ?_) ?_
          · refine step_func 38 #[.agg #[.slice (some ⟨be, oe, none⟩) m cp2, .int .i64 (ag + 1)], .string t] (by rfl) rfl (by simp [Act.eval]) (fun _ _ => by kernel_rfl) ?_
            refine (AT.out _ T0.out).mono ?_
            rintro e ua ⟨rfl, ba⟩
            have TA := hidE (bel_trans T0.out ba)
            have ZA9 : Hid (SP w tp g7 ua) := ⟨Z0.out.1.trans (Same.below ba), bel_trans Z0.out.2 ba⟩
            clear ba
            refine ⟨_, rfl, ?_⟩
            refine hK.out _ _ (by exact ZA9.out) (fun hHeld => ?_)
            clear hK K hHeld
            try simp only [Act.put, List.setIfInBounds_toArray]
            refine wpAnyH_ready (rs := [8]) (by kernel_rfl) (by simp) ?_
            refine AllReadyH.cons rfl (fun K hK => ?_) ?_
            · refine step_func 44 #[.slice (some ⟨be, oe, none⟩) m cp2, .int .i64 (lo : Int), .agg #[.string s, .int .i64 1, .bool true]] (by rfl) rfl (by simp [Act.eval]) (fun _ _ => by kernel_rfl) ?_
              refine (PU.out _ TA.out).mono ?_
              rintro e uc ⟨v9, rfl, hg9⟩
              obtain ⟨A9, c9, e9⟩ := own_slice hg9.own
              rw [List.length_set, ← HM.out] at e9
              subst e9
              have HG9 := hidE hg9
              have ZC9 : Hid (SP w tp g7 uc) := ⟨ZA9.out.1.trans (Same.below hg9.since), bel_trans ZA9.out.2 hg9.since⟩
              have TC9 := hidE (bel_trans TA.out hg9.since)
              clear hg9
              refine ⟨_, rfl, ?_⟩
              refine hK.out _ _ (by exact ZC9.out) (fun hHeld => ?_)
              clear hK K hHeld
              try simp only [Act.put, List.setIfInBounds_toArray]
              refine wpAnyH_take (i := 9) (v := ?_) rfl (by kernel_rfl) (by kernel_rfl) (by kernel_rfl) (fun _ _ _ h => h) (Or.inl ⟨by rfl, ?_⟩) ZC9.out ?_
              rotate_left
              · intro wq hSw; go_simp; first | done | with_reducible rfl
              simp only [List.getElem_toArray, List.getElem_cons_zero, List.getElem_cons_succ, Act.put, List.setIfInBounds_toArray, List.set_cons_zero, List.set_cons_succ]
              refine wpAnyH_ready (rs := [10]) (by kernel_rfl) (by simp) ?_
              refine AllReadyH.cons rfl (fun K hK => ?_) ?_
              · have KC := hidE (K70.out.since TC9.out)
                have e0 : uc.cell? ⟨g7, 0, none⟩ = some (.slice (some ⟨be, oe, none⟩) m cp2) := KC.out.cell 0
                have f0 := KC.out.frozen 0
                go_simp
                clear e0 f0
                have ZF : Hid (SP w tp g7 (uc.setCell ⟨g7, 0, none⟩ (.slice A9 m c9))) := ⟨ZC9.out.1.trans (Same.setCell (a := ⟨g7, 0, none⟩) (fun d => d rfl) _), ZC9.out.2.setCell (p := ⟨g7, 0, none⟩) (by show w.heap.size ≤ g7; have := G7.out; omega) _⟩
                refine hK.out _ _ (by exact ZF.out) (fun hHeld => ?_)
                clear hK K hHeld
                refine wpAnyH_done (by kernel_rfl) ?_ _
                refine NoPanic.normal ?_
                refine hQQ.out _ _ ?_
                clear hQQ
                have GX := G7.out
                have TWL : Hid (w.heap.size ≠ g7 ∧ w.heap.size + 1 ≠ g7 ∧ w.heap.size ≤ g7) := ⟨by omega, by omega, by omega⟩
                have K9 : Hid (Blk (uc.setCell ⟨g7, 0, none⟩ (.slice A9 m c9)) g7 74 #[.slice A9 m c9, .int .i64 (ag + 1)]) := hidE (by
                  have e := KC.out.set 0 (.slice A9 m c9)
                  simpa using e)
                have f9 := K9.out.frozen 1
                have y9 : (uc.setCell ⟨g7, 0, none⟩ (.slice A9 m c9)).cell? ⟨g7, 1, none⟩ = some (.int .i64 (ag + 1)) := K9.out.cell 1
                have KT : Hid (Blk ((uc.setCell ⟨g7, 0, none⟩ (.slice A9 m c9)).setCell ⟨g7, 1, none⟩ (.int .i64 0)) w.heap.size 32 #[.int .u64 S, .int .i64 room, .int .i64 votes, .slice (some ⟨bb, o, none⟩) n cap, .int .u64 LS, .int .i64 LM, .slice LB R lcb]) := ((KT0.out.since TC9.out).other (a := ⟨g7, 0, none⟩) TWL.out.1 _).other (a := ⟨g7, 1, none⟩) TWL.out.1 _
                have RT : Hid (Blk ((uc.setCell ⟨g7, 0, none⟩ (.slice A9 m c9)).setCell ⟨g7, 1, none⟩ (.int .i64 0)) (w.heap.size + 1) 32 #[.int .u64 0, .int .i64 0, .int .i64 0, .slice none 0 0, .int .u64 0, .int .i64 0, .slice none 0 0]) := ((RT0.out.since TC9.out).other (a := ⟨g7, 0, none⟩) TWL.out.2.1 _).other (a := ⟨g7, 1, none⟩) TWL.out.2.1 _
                have K7T : Hid (Blk ((uc.setCell ⟨g7, 0, none⟩ (.slice A9 m c9)).setCell ⟨g7, 1, none⟩ (.int .i64 0)) g7 74 #[.slice A9 m c9, .int .i64 0]) := hidE (by
                  have e := K9.out.set 1 (.int .i64 0)
                  simpa using e)
                have BT : Hid (Below w.heap.size w ((uc.setCell ⟨g7, 0, none⟩ (.slice A9 m c9)).setCell ⟨g7, 1, none⟩ (.int .i64 0))) := ZF.out.2.setCell (p := ⟨g7, 1, none⟩) TWL.out.2.2 _
                have SMM : Same (fun q => q ≠ w.heap.size ∧ q ≠ w.heap.size + 1 ∧ q ≠ g7) uc ((uc.setCell ⟨g7, 0, none⟩ (.slice A9 m c9)).setCell ⟨g7, 1, none⟩ (.int .i64 0)) := (Same.setCell (a := ⟨g7, 0, none⟩) (fun d => d.2.2 rfl) _).trans (Same.setCell (a := ⟨g7, 1, none⟩) (fun d => d.2.2 rfl) _)
                have HLT : Hid (Held (fun q => q ≠ w.heap.size ∧ q ≠ w.heap.size + 1) (fun u => RowsI u (.slice LB R lcb) R (fun _ => c) ZA) ((uc.setCell ⟨g7, 0, none⟩ (.slice A9 m c9)).setCell ⟨g7, 1, none⟩ (.int .i64 0))) := ((HLT0.out.since TC9.out).same SMM).mono fun q _ d => ⟨d.1, d.2.1⟩
                have HENT : Hid (Held (fun q => q ≠ w.heap.size ∧ q ≠ w.heap.size + 1) (fun u => EntsE u (.slice A9 m c9) (⟨es.set (lowAt es) ⟨s, 1, true⟩, 0⟩ : Bkt).es) ((uc.setCell ⟨g7, 0, none⟩ (.slice A9 m c9)).setCell ⟨g7, 1, none⟩ (.int .i64 0))) := hidE (by
                  have e := ((HG9.out.held (D := (fun q => q ≠ w.heap.size ∧ q ≠ w.heap.size + 1 ∧ q ≠ g7)) fun q hq _ => by have := TA.out.size; have := G7L.out.2.1; exact ⟨by omega, by omega, by omega⟩).same SMM).mono (E := (fun q => q ≠ w.heap.size ∧ q ≠ w.heap.size + 1)) fun q _ d => ⟨d.1, d.2.1⟩
                  rw [← HLO.out] at e
                  exact e)
                clear GX K9 KC SMM HG9 HLT0 KT0 RT0 K70 KB0 BT0 ZF ZC9 TC9 TA ZA9
                go_wp2_with fail
                clear f9 y9
                generalize (uc.setCell ⟨g7, 0, none⟩ (.slice A9 m c9)).setCell ⟨g7, 1, none⟩ (.int .i64 0) = tw at KT RT K7T BT HLT HENT ⊢
                have SZT : Hid (w.heap.size + 1 < tw.heap.size ∧ g7 < tw.heap.size) := ⟨RT.out.lt, K7T.out.lt⟩
                obtain ⟨ib, hib, hz0, hz1, hz2⟩ := infoRB
                have HTB : Hid (Try.prog.info? 74 = some ib ∧ ib.zero = some (.agg #[.slice none 0 0, .int .i64 0]) ∧ ib.size = 2 ∧ ib.bytes = 32) := ⟨hib, hz0, hz1, hz2⟩
                clear hib hz0 hz1 hz2
                have BSL : Hid ((bs.set p ⟨es.set (lowAt es) ⟨s, 1, true⟩, 0⟩).length = n) := hidE (by rw [List.length_set]; exact HN.out.symm)
                have BSP : Hid ((bs.set p ⟨es.set (lowAt es) ⟨s, 1, true⟩, 0⟩)[p]? = some ⟨es.set (lowAt es) ⟨s, 1, true⟩, 0⟩) := hidE (by rw [List.getElem?_set, if_pos rfl, if_pos (by have := HN.out; omega)])
                have BSO : Hid (∀ jj, jj ≠ p → (bs.set p ⟨es.set (lowAt es) ⟨s, 1, true⟩, 0⟩)[jj]? = bs[jj]?) := hidE fun jj hi => by rw [List.getElem?_set, if_neg (fun z => hi z.symm)]
                obtain ⟨BS, hBS⟩ : ∃ BS, BS = bs.set p ⟨es.set (lowAt es) ⟨s, 1, true⟩, 0⟩ := ⟨_, rfl⟩
                have HBS := hidE hBS
                rw [← hBS] at BSL BSP BSO
                clear hBS
                have R0 : Hid (RgB (fun q => q ≠ w.heap.size ∧ q ≠ w.heap.size + 1) w tw tw (.slice none 0 0) (BS.take 0)) := ⟨BT.out, Nat.le_refl _, fun q hq => by have := SZT.out; exact ⟨by omega, by omega⟩, [], rfl, World.ownsRow_nil _ _ _ _, fun i x ev h => by simp at h⟩
                go_loopg [14, 15] n (fun gk s14 i wr => ∃ (k m : Nat) (A5 : Option Addr) (c5 : Nat), (gk = n - k ∧ k ≤ n ∧ RgB (fun q => q ≠ w.heap.size ∧ q ≠ w.heap.size + 1) w tw wr (.slice A5 m c5) (BS.take k) ∧ Below tw.heap.size tw wr) ∧ s14 = .slice A5 m c5 ∧ i = .int .i64 (k : Int))
                case atStart => exact ⟨0, 0, none, 0, ⟨rfl, by omega, R0.out, Below.refl _ _⟩, rfl, rfl⟩
                case round =>
                  clear R0
                  obtain ⟨kk, mm, A5, c5, ⟨hgk, hk, hG, hB⟩, rfl, rfl⟩ := hrel
                  have HK := hidE hgk
                  have HG := hidE hG
                  have HBW := hidE hB
                  have x3 : wr.cell? ⟨w.heap.size, 3, none⟩ = some (.slice (some ⟨bb, o, none⟩) n cap) := (KT.out.since hB).cell 3
                  clear hgk hG hB
                  have TL : Hid (mm = (BS.take kk).length) := by
                    obtain ⟨A9, c9, e9⟩ := HG.out.slice
                    cases e9
                    rfl
                  have TM : Hid (mm = kk) := by have e := TL.out; rw [List.length_take, BSL.out] at e; show mm = kk; omega
                  by_cases hz : kk < n
                  · have bk : (kk : Int) < (n : Int) := by omega
                    have bk0 : (0 : Int) ≤ (kk : Int) := by omega
                    obtain ⟨vs, vl, own, vx⟩ := id HG.out.row
                    have HVX := hidE vx
                    have HVL := hidE vl
                    have OWB := hidE own
                    have OWM : Hid (wr.ownsRow tw.heap.size 74 2 (.slice A5 mm c5) mm (bCells (vs.zip ((BS.take kk).map Bkt.ag)))) := by
                      have e := OWB.out
                      rw [← TL.out] at e
                      exact e
                    have SZ : Hid (tw.heap.size ≤ wr.heap.size) := HG.out.size
                    have mb : mm ≤ 256 := by have := TM.out; omega
                    clear vx vl own
                    by_cases kp : kk = p
                    · have qk : ((kk : Int) == (p : Int)) = true := by rw [kp]; simp
                      have NX : Hid (BS.take (kk + 1) = BS.take kk ++ [⟨es.set (lowAt es) ⟨s, 1, true⟩, 0⟩]) := hidE (take_nextE (by rw [kp]; exact BSP.out))
                      have y0 : wr.cell? ⟨g7, 0, none⟩ = some (.slice A9 m c9) := (K7T.out.since HBW.out).cell 0
                      have y1 : wr.cell? ⟨g7, 1, none⟩ = some (.int .i64 (0)) := (K7T.out.since HBW.out).cell 1
                      have HEW : Hid (Held (fun q => q ≠ w.heap.size ∧ q ≠ w.heap.size + 1 ∧ some q ≠ (Value.slice A5 mm c5).ownBlock) (fun u => EntsE u (.slice A9 m c9) (⟨es.set (lowAt es) ⟨s, 1, true⟩, 0⟩ : Bkt).es) wr) := hidE fun u e => HENT.out u ⟨by have := e.1; have := SZ.out; omega, fun q d hq => (e.2 q ⟨d.1, d.2, fun z => by have := (OWB.out.lt q z.symm).1; omega⟩ (by have := SZ.out; omega)).trans (HBW.out.block q hq)⟩
                      clear kp
                      go_wp2_with (at_builtin; refine wpList_append_lies _ rfl _ _ _ rfl tw.heap.size 74 ib (.agg #[.slice none 0 0, .int .i64 0]) 2 32 Try.underlying29 HTB.out.1 HTB.out.2.1 HTB.out.2.2.1 HTB.out.2.2.2 rfl (by omega) (.slice A5 mm c5) mm (bCells (vs.zip ((BS.take kk).map Bkt.ag))) (by rfl) (OWM.out.alloc _) ⟨wr.heap.size, 0, none⟩ 1 1 [.slice A9 m c9, .int .i64 (0)] (by rfl) rfl (new_it wr 74 _ _) (by intro z hz; simp at hz; rcases hz with rfl | rfl <;> rfl) (by omega) (by unfold maxLen; omega) (by omega) (by have := SZ.out; simp; omega) _ rfl ?_; intro gq cap1 w1 hown1 hgrow hat hlt1)
                      have HEW2 : Held (fun q => (q ≠ w.heap.size ∧ q ≠ w.heap.size + 1) ∧ some q ≠ (Value.slice A5 mm c5).ownBlock) (fun u => EntsE u (.slice A9 m c9) (⟨es.set (lowAt es) ⟨s, 1, true⟩, 0⟩ : Bkt).es) wr := HEW.out.mono fun q _ d => ⟨⟨d.1, d.2.1⟩, d.2.2⟩
                      have HS := HG.out.step (x := ⟨es.set (lowAt es) ⟨s, 1, true⟩, 0⟩) (ev := .slice A9 m c9) vs HVL.out OWB.out HVX.out HEW2 (by have := SZT.out; omega) (by
                        have e := hown1
                        rw [← TL.out]
                        exact e) hgrow (hat.imp id fun z => by rw [z]; simp)
                      rw [← TL.out] at HS
                      have B9 : Below tw.heap.size tw w1 := (HBW.out.alloc SZ.out _).grown hgrow (by have := SZ.out; simp; omega) (fun q hq => (OWB.out.lt q hq).1)
                      go_roundg (n - (kk + 1))
                      case measure => have := HK.out; omega
                      case rel => exact ⟨kk + 1, mm + 1, _, cap1, ⟨rfl, by omega, by rw [NX.out]; exact HS, B9⟩, rfl, by go_num⟩
                    · have qk : ((kk : Int) == (p : Int)) = false := by simp; omega
                      obtain ⟨y, hy⟩ : ∃ y, bs[kk]? = some y := ⟨_, List.getElem?_eq_getElem (by have := HN.out; omega)⟩
                      have NX : Hid (BS.take (kk + 1) = BS.take kk ++ [y]) := hidE (take_nextE (by rw [BSO.out kk kp]; exact hy))
                      obtain ⟨ev9, c1, c2, c3⟩ := H4.out kk y hy
                      have c1 := keep_of_below (bel_trans BT.out HBW.out) _ _ c1
                      have c2 := keep_of_below (bel_trans BT.out HBW.out) _ _ c2
                      have HEW : Hid (Held (fun q => q ≠ w.heap.size ∧ q ≠ w.heap.size + 1 ∧ some q ≠ (Value.slice A5 mm c5).ownBlock) (fun u => EntsE u ev9 y.es) wr) := hidE fun u e => c3.keep (Same.keep ⟨by have := e.1; have := (bel_trans BT.out HBW.out).size; omega, fun q _ hq => (e.2 q ⟨by omega, by omega, fun z => by have := (OWB.out.lt q z.symm).1; have := SZT.out; omega⟩ (by have := (bel_trans BT.out HBW.out).size; omega)).trans ((bel_trans BT.out HBW.out).block q hq)⟩)
                      obtain ⟨A8, c8, b8, o8, rfl, _⟩ := c3
                      obtain ⟨m8, hm8⟩ : ∃ m8, m8 = y.es.length := ⟨_, rfl⟩
                      have HM8 := hidE hm8
                      obtain ⟨ag8, hag8⟩ : ∃ ag8, ag8 = y.ag := ⟨_, rfl⟩
                      have HAG8 := hidE hag8
                      rw [← hm8] at c1 HEW
                      rw [← hag8] at c2
                      clear hy hm8 hag8 kp
                      go_wp2_with (at_builtin; refine wpList_append_lies _ rfl _ _ _ rfl tw.heap.size 74 ib (.agg #[.slice none 0 0, .int .i64 0]) 2 32 Try.underlying29 HTB.out.1 HTB.out.2.1 HTB.out.2.2.1 HTB.out.2.2.2 rfl (by omega) (.slice A5 mm c5) mm (bCells (vs.zip ((BS.take kk).map Bkt.ag))) (by rfl) (OWM.out.alloc _) ⟨wr.heap.size, 0, none⟩ 1 1 [.slice A8 m8 c8, .int .i64 (ag8)] (by rfl) rfl (new_it wr 74 _ _) (by intro z hz; simp at hz; rcases hz with rfl | rfl <;> rfl) (by omega) (by unfold maxLen; omega) (by omega) (by have := SZ.out; simp; omega) _ rfl ?_; intro gq cap1 w1 hown1 hgrow hat hlt1)
                      have HEW2 : Held (fun q => (q ≠ w.heap.size ∧ q ≠ w.heap.size + 1) ∧ some q ≠ (Value.slice A5 mm c5).ownBlock) (fun u => EntsE u (.slice A8 m8 c8) (y : Bkt).es) wr := HEW.out.mono fun q _ d => ⟨⟨d.1, d.2.1⟩, d.2.2⟩
                      have HS := HG.out.step (x := y) (ev := .slice A8 m8 c8) vs HVL.out OWB.out HVX.out HEW2 (by have := SZT.out; omega) (by
                        have e := hown1
                        rw [← TL.out]
                        rw [HAG8.out] at e
                        exact e) hgrow (hat.imp id fun z => by rw [z]; simp)
                      rw [← TL.out] at HS
                      have B9 : Below tw.heap.size tw w1 := (HBW.out.alloc SZ.out _).grown hgrow (by have := SZ.out; simp; omega) (fun q hq => (OWB.out.lt q hq).1)
                      go_roundg (n - (kk + 1))
                      case measure => have := HK.out; omega
                      case rel => exact ⟨kk + 1, mm + 1, _, cap1, ⟨rfl, by omega, by rw [NX.out]; exact HS, B9⟩, rfl, by go_num⟩
                  · have bk : ¬ (kk : Int) < (n : Int) := by omega
                    have te : Hid (BS.take kk = BS) := hidE (List.take_of_length_le (by have := BSL.out; omega))
                    have KW := hidE (KT.out.since HBW.out)
                    have RW := hidE (RT.out.since HBW.out)
                    have NL : Hid (mm = n) := by have := TM.out; show mm = n; omega
                    have f3 := KW.out.frozen 3
                    have KS : Hid (Blk (wr.setCell ⟨w.heap.size, 3, none⟩ (.slice A5 mm c5)) w.heap.size 32 #[.int .u64 S, .int .i64 room, .int .i64 votes, .slice A5 mm c5, .int .u64 LS, .int .i64 LM, .slice LB R lcb]) := set3_blk KW.out _
                    have RS : Hid (Blk (wr.setCell ⟨w.heap.size, 3, none⟩ (.slice A5 mm c5)) (w.heap.size + 1) 32 #[.int .u64 0, .int .i64 0, .int .i64 0, .slice none 0 0, .int .u64 0, .int .i64 0, .slice none 0 0]) := RW.out.other (a := ⟨w.heap.size, 3, none⟩) (by show w.heap.size + 1 ≠ w.heap.size; omega) _
                    have BS9 : Hid (Below w.heap.size w (wr.setCell ⟨w.heap.size, 3, none⟩ (.slice A5 mm c5))) := HG.out.since.setCell (p := ⟨w.heap.size, 3, none⟩) (Nat.le_refl _) _
                    have SM9 : Hid (Same (fun q => q ≠ w.heap.size ∧ q ≠ w.heap.size + 1) wr (wr.setCell ⟨w.heap.size, 3, none⟩ (.slice A5 mm c5))) := Same.setCell (a := ⟨w.heap.size, 3, none⟩) (fun d => d.1 rfl) _
                    have HBUC : Hid (Held (fun q => q ≠ w.heap.size ∧ q ≠ w.heap.size + 1) (fun u => BktsE u (.slice A5 mm c5) BS) (wr.setCell ⟨w.heap.size, 3, none⟩ (.slice A5 mm c5))) := by
                      have e := HG.out.bkts
                      rw [te.out] at e
                      exact e.same SM9.out
                    have HL9 : Hid (Held (fun q => q ≠ w.heap.size ∧ q ≠ w.heap.size + 1) (fun u => RowsI u (.slice LB R lcb) R (fun _ => c) ZA) (wr.setCell ⟨w.heap.size, 3, none⟩ (.slice A5 mm c5))) := (HLT.out.since HBW.out).same SM9.out
                    go_upto_region 36 with fail
                    clear x3 f3
                    generalize wr.setCell ⟨w.heap.size, 3, none⟩ (.slice A5 mm c5) = w9 at KS RS BS9 HBUC HL9 ⊢
                    have x0 : w9.cell? ⟨w.heap.size, 0, none⟩ = some (.int .u64 S) := KS.out.cell 0
                    have x1 : w9.cell? ⟨w.heap.size, 1, none⟩ = some (.int .i64 room) := KS.out.cell 1
                    have x2 : w9.cell? ⟨w.heap.size, 2, none⟩ = some (.int .i64 votes) := KS.out.cell 2
                    have x3 : w9.cell? ⟨w.heap.size, 3, none⟩ = some (.slice A5 mm c5) := KS.out.cell 3
                    have x4 : w9.cell? ⟨w.heap.size, 4, none⟩ = some (.int .u64 LS) := KS.out.cell 4
                    have x5 : w9.cell? ⟨w.heap.size, 5, none⟩ = some (.int .i64 LM) := KS.out.cell 5
                    have x6 : w9.cell? ⟨w.heap.size, 6, none⟩ = some (.slice LB R lcb) := KS.out.cell 6
                    have r0 : w9.cell? ⟨w.heap.size + 1, 0, none⟩ = some (.int .u64 0) := RS.out.cell 0
                    have r1 : w9.cell? ⟨w.heap.size + 1, 1, none⟩ = some (.int .i64 0) := RS.out.cell 1
                    have r2 : w9.cell? ⟨w.heap.size + 1, 2, none⟩ = some (.int .i64 0) := RS.out.cell 2
                    have r3 : w9.cell? ⟨w.heap.size + 1, 3, none⟩ = some (.slice none 0 0) := RS.out.cell 3
                    have r4 : w9.cell? ⟨w.heap.size + 1, 4, none⟩ = some (.int .u64 0) := RS.out.cell 4
                    have r5 : w9.cell? ⟨w.heap.size + 1, 5, none⟩ = some (.int .i64 0) := RS.out.cell 5
                    have r6 : w9.cell? ⟨w.heap.size + 1, 6, none⟩ = some (.slice none 0 0) := RS.out.cell 6
                    have z0 := RS.out.frozen 0
                    have z1 := RS.out.frozen 1
                    have z2 := RS.out.frozen 2
                    have z3 := RS.out.frozen 3
                    have z4 := RS.out.frozen 4
                    have z5 := RS.out.frozen 5
                    have z6 := RS.out.frozen 6
                    go_wp2_with fail
                    refine bodyPost_ret (v := .tuple #[.agg #[.int .u64 S, .int .i64 room, .int .i64 votes, .slice A5 mm c5, .int .u64 LS, .int .i64 LM, .slice LB R lcb], .bool true]) ?_ rfl ?_
                    rotate_left
                    · refine ⟨_, rfl, ?_, eput7_below BS9.out (by omega) _ _ _ _ _ _ _⟩
                      have sm : Same (fun q => q ≠ w.heap.size ∧ q ≠ w.heap.size + 1) w9 (eput7 w9 (w.heap.size + 1) (.int .u64 S) (.int .i64 room) (.int .i64 votes) (.slice A5 mm c5) (.int .u64 LS) (.int .i64 LM) (.slice LB R lcb)) := ⟨by rw [eput7_size]; exact Nat.le_refl _, fun q d hq => eput7_heap _ _ _ _ _ _ _ _ _ q d.2⟩
                      have h1 := (HBUC.out.same sm).at
                      have h2 := (HL9.out.same sm).at
                      rw [HBS.out] at h1
                      exact ⟨_, _, rfl, h1, h2⟩
                    have c3 := eput7_blk (t := 32) RS.out (.int .u64 S) (.int .i64 room) (.int .i64 votes) (.slice A5 mm c5) (.int .u64 LS) (.int .i64 LM) (.slice LB R lcb)
                    have c30 := c3.cell 0
                    have c31 := c3.cell 1
                    have c32 := c3.cell 2
                    have c33 := c3.cell 3
                    have c34 := c3.cell 4
                    have c35 := c3.cell 5
                    have c36 := c3.cell 6
                    change (results _ _).run _ (eput7 w9 (w.heap.size + 1) (.int .u64 S) (.int .i64 room) (.int .i64 votes) (.slice A5 mm c5) (.int .u64 LS) (.int .i64 LM) (.slice LB R lcb)) = .ok _ (eput7 w9 (w.heap.size + 1) (.int .u64 S) (.int .i64 room) (.int .i64 votes) (.slice A5 mm c5) (.int .u64 LS) (.int .i64 LM) (.slice LB R lcb))
                    generalize eput7 w9 (w.heap.size + 1) (.int .u64 S) (.int .i64 room) (.int .i64 votes) (.slice A5 mm c5) (.int .u64 LS) (.int .i64 LM) (.slice LB R lcb) = W5 at c30 c31 c32 c33 c34 c35 c36
                    simp [results, Try.results19, go_sem, c30, c31, c32, c33, c34, c35, c36]
              exact AllReadyH.nil
            exact AllReadyH.nil
          exact AllReadyH.nil
        exact AllReadyH.nil
      refine AllReadyH.cons rfl (fun K hK => ?_) ?_
      · have b0 : q0.cell? ⟨g7, 0, none⟩ = some (.slice (some ⟨be, oe, none⟩) m cp2) := (K70.out.since T0.out).cell 0
        have b1 : q0.cell? ⟨g7, 1, none⟩ = some (.int .i64 (ag + 1)) := (K70.out.since T0.out).cell 1
        go_simp
        clear b0 b1
        refine hK.out _ _ (by exact Z0.out) (fun hHeld => ?_)
        clear hK K hHeld
        refine wpAnyH_ready (rs := [1, 5]) (by kernel_rfl) (by simp) ?_
        refine AllReadyH.cons rfl (fun K hK => ?_) ?_
        · have b0 : q0.cell? ⟨g7, 0, none⟩ = some (.slice (some ⟨be, oe, none⟩) m cp2) := (K70.out.since T0.out).cell 0
          have b1 : q0.cell? ⟨g7, 1, none⟩ = some (.int .i64 (ag + 1)) := (K70.out.since T0.out).cell 1
          go_simp
          clear b0 b1
          refine hK.out _ _ (by exact Z0.out) (fun hHeld => ?_)
          clear hK K hHeld
          refine wpAnyH_ready (rs := [5]) (by kernel_rfl) (by simp) ?_
          refine AllReadyH.cons rfl (fun K hK => ?_) ?_
          · refine step_func 38 #[.agg #[.slice (some ⟨be, oe, none⟩) m cp2, .int .i64 (ag + 1)], .string t] (by rfl) rfl (by simp [Act.eval]) (fun _ _ => by kernel_rfl) ?_
            refine (AT.out _ T0.out).mono ?_
            rintro e ua ⟨rfl, ba⟩
            have TA := hidE (bel_trans T0.out ba)
            have ZA9 : Hid (SP w tp g7 ua) := ⟨Z0.out.1.trans (Same.below ba), bel_trans Z0.out.2 ba⟩
            clear ba
            refine ⟨_, rfl, ?_⟩
            refine hK.out _ _ (by exact ZA9.out) (fun hHeld => ?_)
            clear hK K hHeld
            try simp only [Act.put, List.setIfInBounds_toArray]
            refine wpAnyH_ready (rs := [8]) (by kernel_rfl) (by simp) ?_
            refine AllReadyH.cons rfl (fun K hK => ?_) ?_
            · refine step_func 44 #[.slice (some ⟨be, oe, none⟩) m cp2, .int .i64 (lo : Int), .agg #[.string s, .int .i64 1, .bool true]] (by rfl) rfl (by simp [Act.eval]) (fun _ _ => by kernel_rfl) ?_
              refine (PU.out _ TA.out).mono ?_
              rintro e uc ⟨v9, rfl, hg9⟩
              obtain ⟨A9, c9, e9⟩ := own_slice hg9.own
              rw [List.length_set, ← HM.out] at e9
              subst e9
              have HG9 := hidE hg9
              have ZC9 : Hid (SP w tp g7 uc) := ⟨ZA9.out.1.trans (Same.below hg9.since), bel_trans ZA9.out.2 hg9.since⟩
              have TC9 := hidE (bel_trans TA.out hg9.since)
              clear hg9
              refine ⟨_, rfl, ?_⟩
              refine hK.out _ _ (by exact ZC9.out) (fun hHeld => ?_)
              clear hK K hHeld
              try simp only [Act.put, List.setIfInBounds_toArray]
              refine wpAnyH_take (i := 9) (v := ?_) rfl (by kernel_rfl) (by kernel_rfl) (by kernel_rfl) (fun _ _ _ h => h) (Or.inl ⟨by rfl, ?_⟩) ZC9.out ?_
              rotate_left
              · intro wq hSw; go_simp; first | done | with_reducible rfl
              simp only [List.getElem_toArray, List.getElem_cons_zero, List.getElem_cons_succ, Act.put, List.setIfInBounds_toArray, List.set_cons_zero, List.set_cons_succ]
              refine wpAnyH_ready (rs := [10]) (by kernel_rfl) (by simp) ?_
              refine AllReadyH.cons rfl (fun K hK => ?_) ?_
              · have KC := hidE (K70.out.since TC9.out)
                have e0 : uc.cell? ⟨g7, 0, none⟩ = some (.slice (some ⟨be, oe, none⟩) m cp2) := KC.out.cell 0
                have f0 := KC.out.frozen 0
                go_simp
                clear e0 f0
                have ZF : Hid (SP w tp g7 (uc.setCell ⟨g7, 0, none⟩ (.slice A9 m c9))) := ⟨ZC9.out.1.trans (Same.setCell (a := ⟨g7, 0, none⟩) (fun d => d rfl) _), ZC9.out.2.setCell (p := ⟨g7, 0, none⟩) (by show w.heap.size ≤ g7; have := G7.out; omega) _⟩
                refine hK.out _ _ (by exact ZF.out) (fun hHeld => ?_)
                clear hK K hHeld
                refine wpAnyH_done (by kernel_rfl) ?_ _
                refine NoPanic.normal ?_
                refine hQQ.out _ _ ?_
                clear hQQ
                have GX := G7.out
                have TWL : Hid (w.heap.size ≠ g7 ∧ w.heap.size + 1 ≠ g7 ∧ w.heap.size ≤ g7) := ⟨by omega, by omega, by omega⟩
                have K9 : Hid (Blk (uc.setCell ⟨g7, 0, none⟩ (.slice A9 m c9)) g7 74 #[.slice A9 m c9, .int .i64 (ag + 1)]) := hidE (by
                  have e := KC.out.set 0 (.slice A9 m c9)
                  simpa using e)
                have f9 := K9.out.frozen 1
                have y9 : (uc.setCell ⟨g7, 0, none⟩ (.slice A9 m c9)).cell? ⟨g7, 1, none⟩ = some (.int .i64 (ag + 1)) := K9.out.cell 1
                have KT : Hid (Blk ((uc.setCell ⟨g7, 0, none⟩ (.slice A9 m c9)).setCell ⟨g7, 1, none⟩ (.int .i64 0)) w.heap.size 32 #[.int .u64 S, .int .i64 room, .int .i64 votes, .slice (some ⟨bb, o, none⟩) n cap, .int .u64 LS, .int .i64 LM, .slice LB R lcb]) := ((KT0.out.since TC9.out).other (a := ⟨g7, 0, none⟩) TWL.out.1 _).other (a := ⟨g7, 1, none⟩) TWL.out.1 _
                have RT : Hid (Blk ((uc.setCell ⟨g7, 0, none⟩ (.slice A9 m c9)).setCell ⟨g7, 1, none⟩ (.int .i64 0)) (w.heap.size + 1) 32 #[.int .u64 0, .int .i64 0, .int .i64 0, .slice none 0 0, .int .u64 0, .int .i64 0, .slice none 0 0]) := ((RT0.out.since TC9.out).other (a := ⟨g7, 0, none⟩) TWL.out.2.1 _).other (a := ⟨g7, 1, none⟩) TWL.out.2.1 _
                have K7T : Hid (Blk ((uc.setCell ⟨g7, 0, none⟩ (.slice A9 m c9)).setCell ⟨g7, 1, none⟩ (.int .i64 0)) g7 74 #[.slice A9 m c9, .int .i64 0]) := hidE (by
                  have e := K9.out.set 1 (.int .i64 0)
                  simpa using e)
                have BT : Hid (Below w.heap.size w ((uc.setCell ⟨g7, 0, none⟩ (.slice A9 m c9)).setCell ⟨g7, 1, none⟩ (.int .i64 0))) := ZF.out.2.setCell (p := ⟨g7, 1, none⟩) TWL.out.2.2 _
                have SMM : Same (fun q => q ≠ w.heap.size ∧ q ≠ w.heap.size + 1 ∧ q ≠ g7) uc ((uc.setCell ⟨g7, 0, none⟩ (.slice A9 m c9)).setCell ⟨g7, 1, none⟩ (.int .i64 0)) := (Same.setCell (a := ⟨g7, 0, none⟩) (fun d => d.2.2 rfl) _).trans (Same.setCell (a := ⟨g7, 1, none⟩) (fun d => d.2.2 rfl) _)
                have HLT : Hid (Held (fun q => q ≠ w.heap.size ∧ q ≠ w.heap.size + 1) (fun u => RowsI u (.slice LB R lcb) R (fun _ => c) ZA) ((uc.setCell ⟨g7, 0, none⟩ (.slice A9 m c9)).setCell ⟨g7, 1, none⟩ (.int .i64 0))) := ((HLT0.out.since TC9.out).same SMM).mono fun q _ d => ⟨d.1, d.2.1⟩
                have HENT : Hid (Held (fun q => q ≠ w.heap.size ∧ q ≠ w.heap.size + 1) (fun u => EntsE u (.slice A9 m c9) (⟨es.set (lowAt es) ⟨s, 1, true⟩, 0⟩ : Bkt).es) ((uc.setCell ⟨g7, 0, none⟩ (.slice A9 m c9)).setCell ⟨g7, 1, none⟩ (.int .i64 0))) := hidE (by
                  have e := ((HG9.out.held (D := (fun q => q ≠ w.heap.size ∧ q ≠ w.heap.size + 1 ∧ q ≠ g7)) fun q hq _ => by have := TA.out.size; have := G7L.out.2.1; exact ⟨by omega, by omega, by omega⟩).same SMM).mono (E := (fun q => q ≠ w.heap.size ∧ q ≠ w.heap.size + 1)) fun q _ d => ⟨d.1, d.2.1⟩
                  rw [← HLO.out] at e
                  exact e)
                clear GX K9 KC SMM HG9 HLT0 KT0 RT0 K70 KB0 BT0 ZF ZC9 TC9 TA ZA9
                go_wp2_with fail
                clear f9 y9
                generalize (uc.setCell ⟨g7, 0, none⟩ (.slice A9 m c9)).setCell ⟨g7, 1, none⟩ (.int .i64 0) = tw at KT RT K7T BT HLT HENT ⊢
                have SZT : Hid (w.heap.size + 1 < tw.heap.size ∧ g7 < tw.heap.size) := ⟨RT.out.lt, K7T.out.lt⟩
                obtain ⟨ib, hib, hz0, hz1, hz2⟩ := infoRB
                have HTB : Hid (Try.prog.info? 74 = some ib ∧ ib.zero = some (.agg #[.slice none 0 0, .int .i64 0]) ∧ ib.size = 2 ∧ ib.bytes = 32) := ⟨hib, hz0, hz1, hz2⟩
                clear hib hz0 hz1 hz2
                have BSL : Hid ((bs.set p ⟨es.set (lowAt es) ⟨s, 1, true⟩, 0⟩).length = n) := hidE (by rw [List.length_set]; exact HN.out.symm)
                have BSP : Hid ((bs.set p ⟨es.set (lowAt es) ⟨s, 1, true⟩, 0⟩)[p]? = some ⟨es.set (lowAt es) ⟨s, 1, true⟩, 0⟩) := hidE (by rw [List.getElem?_set, if_pos rfl, if_pos (by have := HN.out; omega)])
                have BSO : Hid (∀ jj, jj ≠ p → (bs.set p ⟨es.set (lowAt es) ⟨s, 1, true⟩, 0⟩)[jj]? = bs[jj]?) := hidE fun jj hi => by rw [List.getElem?_set, if_neg (fun z => hi z.symm)]
                obtain ⟨BS, hBS⟩ : ∃ BS, BS = bs.set p ⟨es.set (lowAt es) ⟨s, 1, true⟩, 0⟩ := ⟨_, rfl⟩
                have HBS := hidE hBS
                rw [← hBS] at BSL BSP BSO
                clear hBS
                have R0 : Hid (RgB (fun q => q ≠ w.heap.size ∧ q ≠ w.heap.size + 1) w tw tw (.slice none 0 0) (BS.take 0)) := ⟨BT.out, Nat.le_refl _, fun q hq => by have := SZT.out; exact ⟨by omega, by omega⟩, [], rfl, World.ownsRow_nil _ _ _ _, fun i x ev h => by simp at h⟩
                go_loopg [14, 15] n (fun gk s14 i wr => ∃ (k m : Nat) (A5 : Option Addr) (c5 : Nat), (gk = n - k ∧ k ≤ n ∧ RgB (fun q => q ≠ w.heap.size ∧ q ≠ w.heap.size + 1) w tw wr (.slice A5 m c5) (BS.take k) ∧ Below tw.heap.size tw wr) ∧ s14 = .slice A5 m c5 ∧ i = .int .i64 (k : Int))
                case atStart => exact ⟨0, 0, none, 0, ⟨rfl, by omega, R0.out, Below.refl _ _⟩, rfl, rfl⟩
                case round =>
                  clear R0
                  obtain ⟨kk, mm, A5, c5, ⟨hgk, hk, hG, hB⟩, rfl, rfl⟩ := hrel
                  have HK := hidE hgk
                  have HG := hidE hG
                  have HBW := hidE hB
                  have x3 : wr.cell? ⟨w.heap.size, 3, none⟩ = some (.slice (some ⟨bb, o, none⟩) n cap) := (KT.out.since hB).cell 3
                  clear hgk hG hB
                  have TL : Hid (mm = (BS.take kk).length) := by
                    obtain ⟨A9, c9, e9⟩ := HG.out.slice
                    cases e9
                    rfl
                  have TM : Hid (mm = kk) := by have e := TL.out; rw [List.length_take, BSL.out] at e; show mm = kk; omega
                  by_cases hz : kk < n
                  · have bk : (kk : Int) < (n : Int) := by omega
                    have bk0 : (0 : Int) ≤ (kk : Int) := by omega
                    obtain ⟨vs, vl, own, vx⟩ := id HG.out.row
                    have HVX := hidE vx
                    have HVL := hidE vl
                    have OWB := hidE own
                    have OWM : Hid (wr.ownsRow tw.heap.size 74 2 (.slice A5 mm c5) mm (bCells (vs.zip ((BS.take kk).map Bkt.ag)))) := by
                      have e := OWB.out
                      rw [← TL.out] at e
                      exact e
                    have SZ : Hid (tw.heap.size ≤ wr.heap.size) := HG.out.size
                    have mb : mm ≤ 256 := by have := TM.out; omega
                    clear vx vl own
                    by_cases kp : kk = p
                    · have qk : ((kk : Int) == (p : Int)) = true := by rw [kp]; simp
                      have NX : Hid (BS.take (kk + 1) = BS.take kk ++ [⟨es.set (lowAt es) ⟨s, 1, true⟩, 0⟩]) := hidE (take_nextE (by rw [kp]; exact BSP.out))
                      have y0 : wr.cell? ⟨g7, 0, none⟩ = some (.slice A9 m c9) := (K7T.out.since HBW.out).cell 0
                      have y1 : wr.cell? ⟨g7, 1, none⟩ = some (.int .i64 (0)) := (K7T.out.since HBW.out).cell 1
                      have HEW : Hid (Held (fun q => q ≠ w.heap.size ∧ q ≠ w.heap.size + 1 ∧ some q ≠ (Value.slice A5 mm c5).ownBlock) (fun u => EntsE u (.slice A9 m c9) (⟨es.set (lowAt es) ⟨s, 1, true⟩, 0⟩ : Bkt).es) wr) := hidE fun u e => HENT.out u ⟨by have := e.1; have := SZ.out; omega, fun q d hq => (e.2 q ⟨d.1, d.2, fun z => by have := (OWB.out.lt q z.symm).1; omega⟩ (by have := SZ.out; omega)).trans (HBW.out.block q hq)⟩
                      clear kp
                      go_wp2_with (at_builtin; refine wpList_append_lies _ rfl _ _ _ rfl tw.heap.size 74 ib (.agg #[.slice none 0 0, .int .i64 0]) 2 32 Try.underlying29 HTB.out.1 HTB.out.2.1 HTB.out.2.2.1 HTB.out.2.2.2 rfl (by omega) (.slice A5 mm c5) mm (bCells (vs.zip ((BS.take kk).map Bkt.ag))) (by rfl) (OWM.out.alloc _) ⟨wr.heap.size, 0, none⟩ 1 1 [.slice A9 m c9, .int .i64 (0)] (by rfl) rfl (new_it wr 74 _ _) (by intro z hz; simp at hz; rcases hz with rfl | rfl <;> rfl) (by omega) (by unfold maxLen; omega) (by omega) (by have := SZ.out; simp; omega) _ rfl ?_; intro gq cap1 w1 hown1 hgrow hat hlt1)
                      have HEW2 : Held (fun q => (q ≠ w.heap.size ∧ q ≠ w.heap.size + 1) ∧ some q ≠ (Value.slice A5 mm c5).ownBlock) (fun u => EntsE u (.slice A9 m c9) (⟨es.set (lowAt es) ⟨s, 1, true⟩, 0⟩ : Bkt).es) wr := HEW.out.mono fun q _ d => ⟨⟨d.1, d.2.1⟩, d.2.2⟩
                      have HS := HG.out.step (x := ⟨es.set (lowAt es) ⟨s, 1, true⟩, 0⟩) (ev := .slice A9 m c9) vs HVL.out OWB.out HVX.out HEW2 (by have := SZT.out; omega) (by
                        have e := hown1
                        rw [← TL.out]
                        exact e) hgrow (hat.imp id fun z => by rw [z]; simp)
                      rw [← TL.out] at HS
                      have B9 : Below tw.heap.size tw w1 := (HBW.out.alloc SZ.out _).grown hgrow (by have := SZ.out; simp; omega) (fun q hq => (OWB.out.lt q hq).1)
                      go_roundg (n - (kk + 1))
                      case measure => have := HK.out; omega
                      case rel => exact ⟨kk + 1, mm + 1, _, cap1, ⟨rfl, by omega, by rw [NX.out]; exact HS, B9⟩, rfl, by go_num⟩
                    · have qk : ((kk : Int) == (p : Int)) = false := by simp; omega
                      obtain ⟨y, hy⟩ : ∃ y, bs[kk]? = some y := ⟨_, List.getElem?_eq_getElem (by have := HN.out; omega)⟩
                      have NX : Hid (BS.take (kk + 1) = BS.take kk ++ [y]) := hidE (take_nextE (by rw [BSO.out kk kp]; exact hy))
                      obtain ⟨ev9, c1, c2, c3⟩ := H4.out kk y hy
                      have c1 := keep_of_below (bel_trans BT.out HBW.out) _ _ c1
                      have c2 := keep_of_below (bel_trans BT.out HBW.out) _ _ c2
                      have HEW : Hid (Held (fun q => q ≠ w.heap.size ∧ q ≠ w.heap.size + 1 ∧ some q ≠ (Value.slice A5 mm c5).ownBlock) (fun u => EntsE u ev9 y.es) wr) := hidE fun u e => c3.keep (Same.keep ⟨by have := e.1; have := (bel_trans BT.out HBW.out).size; omega, fun q _ hq => (e.2 q ⟨by omega, by omega, fun z => by have := (OWB.out.lt q z.symm).1; have := SZT.out; omega⟩ (by have := (bel_trans BT.out HBW.out).size; omega)).trans ((bel_trans BT.out HBW.out).block q hq)⟩)
                      obtain ⟨A8, c8, b8, o8, rfl, _⟩ := c3
                      obtain ⟨m8, hm8⟩ : ∃ m8, m8 = y.es.length := ⟨_, rfl⟩
                      have HM8 := hidE hm8
                      obtain ⟨ag8, hag8⟩ : ∃ ag8, ag8 = y.ag := ⟨_, rfl⟩
                      have HAG8 := hidE hag8
                      rw [← hm8] at c1 HEW
                      rw [← hag8] at c2
                      clear hy hm8 hag8 kp
                      go_wp2_with (at_builtin; refine wpList_append_lies _ rfl _ _ _ rfl tw.heap.size 74 ib (.agg #[.slice none 0 0, .int .i64 0]) 2 32 Try.underlying29 HTB.out.1 HTB.out.2.1 HTB.out.2.2.1 HTB.out.2.2.2 rfl (by omega) (.slice A5 mm c5) mm (bCells (vs.zip ((BS.take kk).map Bkt.ag))) (by rfl) (OWM.out.alloc _) ⟨wr.heap.size, 0, none⟩ 1 1 [.slice A8 m8 c8, .int .i64 (ag8)] (by rfl) rfl (new_it wr 74 _ _) (by intro z hz; simp at hz; rcases hz with rfl | rfl <;> rfl) (by omega) (by unfold maxLen; omega) (by omega) (by have := SZ.out; simp; omega) _ rfl ?_; intro gq cap1 w1 hown1 hgrow hat hlt1)
                      have HEW2 : Held (fun q => (q ≠ w.heap.size ∧ q ≠ w.heap.size + 1) ∧ some q ≠ (Value.slice A5 mm c5).ownBlock) (fun u => EntsE u (.slice A8 m8 c8) (y : Bkt).es) wr := HEW.out.mono fun q _ d => ⟨⟨d.1, d.2.1⟩, d.2.2⟩
                      have HS := HG.out.step (x := y) (ev := .slice A8 m8 c8) vs HVL.out OWB.out HVX.out HEW2 (by have := SZT.out; omega) (by
                        have e := hown1
                        rw [← TL.out]
                        rw [HAG8.out] at e
                        exact e) hgrow (hat.imp id fun z => by rw [z]; simp)
                      rw [← TL.out] at HS
                      have B9 : Below tw.heap.size tw w1 := (HBW.out.alloc SZ.out _).grown hgrow (by have := SZ.out; simp; omega) (fun q hq => (OWB.out.lt q hq).1)
                      go_roundg (n - (kk + 1))
                      case measure => have := HK.out; omega
                      case rel => exact ⟨kk + 1, mm + 1, _, cap1, ⟨rfl, by omega, by rw [NX.out]; exact HS, B9⟩, rfl, by go_num⟩
                  · have bk : ¬ (kk : Int) < (n : Int) := by omega
                    have te : Hid (BS.take kk = BS) := hidE (List.take_of_length_le (by have := BSL.out; omega))
                    have KW := hidE (KT.out.since HBW.out)
                    have RW := hidE (RT.out.since HBW.out)
                    have NL : Hid (mm = n) := by have := TM.out; show mm = n; omega
                    have f3 := KW.out.frozen 3
                    have KS : Hid (Blk (wr.setCell ⟨w.heap.size, 3, none⟩ (.slice A5 mm c5)) w.heap.size 32 #[.int .u64 S, .int .i64 room, .int .i64 votes, .slice A5 mm c5, .int .u64 LS, .int .i64 LM, .slice LB R lcb]) := set3_blk KW.out _
                    have RS : Hid (Blk (wr.setCell ⟨w.heap.size, 3, none⟩ (.slice A5 mm c5)) (w.heap.size + 1) 32 #[.int .u64 0, .int .i64 0, .int .i64 0, .slice none 0 0, .int .u64 0, .int .i64 0, .slice none 0 0]) := RW.out.other (a := ⟨w.heap.size, 3, none⟩) (by show w.heap.size + 1 ≠ w.heap.size; omega) _
                    have BS9 : Hid (Below w.heap.size w (wr.setCell ⟨w.heap.size, 3, none⟩ (.slice A5 mm c5))) := HG.out.since.setCell (p := ⟨w.heap.size, 3, none⟩) (Nat.le_refl _) _
                    have SM9 : Hid (Same (fun q => q ≠ w.heap.size ∧ q ≠ w.heap.size + 1) wr (wr.setCell ⟨w.heap.size, 3, none⟩ (.slice A5 mm c5))) := Same.setCell (a := ⟨w.heap.size, 3, none⟩) (fun d => d.1 rfl) _
                    have HBUC : Hid (Held (fun q => q ≠ w.heap.size ∧ q ≠ w.heap.size + 1) (fun u => BktsE u (.slice A5 mm c5) BS) (wr.setCell ⟨w.heap.size, 3, none⟩ (.slice A5 mm c5))) := by
                      have e := HG.out.bkts
                      rw [te.out] at e
                      exact e.same SM9.out
                    have HL9 : Hid (Held (fun q => q ≠ w.heap.size ∧ q ≠ w.heap.size + 1) (fun u => RowsI u (.slice LB R lcb) R (fun _ => c) ZA) (wr.setCell ⟨w.heap.size, 3, none⟩ (.slice A5 mm c5))) := (HLT.out.since HBW.out).same SM9.out
                    go_upto_region 36 with fail
                    clear x3 f3
                    generalize wr.setCell ⟨w.heap.size, 3, none⟩ (.slice A5 mm c5) = w9 at KS RS BS9 HBUC HL9 ⊢
                    have x0 : w9.cell? ⟨w.heap.size, 0, none⟩ = some (.int .u64 S) := KS.out.cell 0
                    have x1 : w9.cell? ⟨w.heap.size, 1, none⟩ = some (.int .i64 room) := KS.out.cell 1
                    have x2 : w9.cell? ⟨w.heap.size, 2, none⟩ = some (.int .i64 votes) := KS.out.cell 2
                    have x3 : w9.cell? ⟨w.heap.size, 3, none⟩ = some (.slice A5 mm c5) := KS.out.cell 3
                    have x4 : w9.cell? ⟨w.heap.size, 4, none⟩ = some (.int .u64 LS) := KS.out.cell 4
                    have x5 : w9.cell? ⟨w.heap.size, 5, none⟩ = some (.int .i64 LM) := KS.out.cell 5
                    have x6 : w9.cell? ⟨w.heap.size, 6, none⟩ = some (.slice LB R lcb) := KS.out.cell 6
                    have r0 : w9.cell? ⟨w.heap.size + 1, 0, none⟩ = some (.int .u64 0) := RS.out.cell 0
                    have r1 : w9.cell? ⟨w.heap.size + 1, 1, none⟩ = some (.int .i64 0) := RS.out.cell 1
                    have r2 : w9.cell? ⟨w.heap.size + 1, 2, none⟩ = some (.int .i64 0) := RS.out.cell 2
                    have r3 : w9.cell? ⟨w.heap.size + 1, 3, none⟩ = some (.slice none 0 0) := RS.out.cell 3
                    have r4 : w9.cell? ⟨w.heap.size + 1, 4, none⟩ = some (.int .u64 0) := RS.out.cell 4
                    have r5 : w9.cell? ⟨w.heap.size + 1, 5, none⟩ = some (.int .i64 0) := RS.out.cell 5
                    have r6 : w9.cell? ⟨w.heap.size + 1, 6, none⟩ = some (.slice none 0 0) := RS.out.cell 6
                    have z0 := RS.out.frozen 0
                    have z1 := RS.out.frozen 1
                    have z2 := RS.out.frozen 2
                    have z3 := RS.out.frozen 3
                    have z4 := RS.out.frozen 4
                    have z5 := RS.out.frozen 5
                    have z6 := RS.out.frozen 6
                    go_wp2_with fail
                    refine bodyPost_ret (v := .tuple #[.agg #[.int .u64 S, .int .i64 room, .int .i64 votes, .slice A5 mm c5, .int .u64 LS, .int .i64 LM, .slice LB R lcb], .bool true]) ?_ rfl ?_
                    rotate_left
                    · refine ⟨_, rfl, ?_, eput7_below BS9.out (by omega) _ _ _ _ _ _ _⟩
                      have sm : Same (fun q => q ≠ w.heap.size ∧ q ≠ w.heap.size + 1) w9 (eput7 w9 (w.heap.size + 1) (.int .u64 S) (.int .i64 room) (.int .i64 votes) (.slice A5 mm c5) (.int .u64 LS) (.int .i64 LM) (.slice LB R lcb)) := ⟨by rw [eput7_size]; exact Nat.le_refl _, fun q d hq => eput7_heap _ _ _ _ _ _ _ _ _ q d.2⟩
                      have h1 := (HBUC.out.same sm).at
                      have h2 := (HL9.out.same sm).at
                      rw [HBS.out] at h1
                      exact ⟨_, _, rfl, h1, h2⟩
                    have c3 := eput7_blk (t := 32) RS.out (.int .u64 S) (.int .i64 room) (.int .i64 votes) (.slice A5 mm c5) (.int .u64 LS) (.int .i64 LM) (.slice LB R lcb)
                    have c30 := c3.cell 0
                    have c31 := c3.cell 1
                    have c32 := c3.cell 2
                    have c33 := c3.cell 3
                    have c34 := c3.cell 4
                    have c35 := c3.cell 5
                    have c36 := c3.cell 6
                    change (results _ _).run _ (eput7 w9 (w.heap.size + 1) (.int .u64 S) (.int .i64 room) (.int .i64 votes) (.slice A5 mm c5) (.int .u64 LS) (.int .i64 LM) (.slice LB R lcb)) = .ok _ (eput7 w9 (w.heap.size + 1) (.int .u64 S) (.int .i64 room) (.int .i64 votes) (.slice A5 mm c5) (.int .u64 LS) (.int .i64 LM) (.slice LB R lcb))
                    generalize eput7 w9 (w.heap.size + 1) (.int .u64 S) (.int .i64 room) (.int .i64 votes) (.slice A5 mm c5) (.int .u64 LS) (.int .i64 LM) (.slice LB R lcb) = W5 at c30 c31 c32 c33 c34 c35 c36
                    simp [results, Try.results19, go_sem, c30, c31, c32, c33, c34, c35, c36]
              exact AllReadyH.nil
            exact AllReadyH.nil
          exact AllReadyH.nil
        refine AllReadyH.cons rfl (fun K hK => ?_) ?_
        · refine step_func 38 #[.agg #[.slice (some ⟨be, oe, none⟩) m cp2, .int .i64 (ag + 1)], .string t] (by rfl) rfl (by simp [Act.eval]) (fun _ _ => by kernel_rfl) ?_
          refine (AT.out _ T0.out).mono ?_
          rintro e ua ⟨rfl, ba⟩
          have TA := hidE (bel_trans T0.out ba)
          have ZA9 : Hid (SP w tp g7 ua) := ⟨Z0.out.1.trans (Same.below ba), bel_trans Z0.out.2 ba⟩
          clear ba
          refine ⟨_, rfl, ?_⟩
          refine hK.out _ _ (by exact ZA9.out) (fun hHeld => ?_)
          clear hK K hHeld
          try simp only [Act.put, List.setIfInBounds_toArray]
          refine wpAnyH_ready (rs := [1]) (by kernel_rfl) (by simp) ?_
          refine AllReadyH.cons rfl (fun K hK => ?_) ?_
          · have b0 : ua.cell? ⟨g7, 0, none⟩ = some (.slice (some ⟨be, oe, none⟩) m cp2) := (K70.out.since TA.out).cell 0
            have b1 : ua.cell? ⟨g7, 1, none⟩ = some (.int .i64 (ag + 1)) := (K70.out.since TA.out).cell 1
            go_simp
            clear b0 b1
            refine hK.out _ _ (by exact ZA9.out) (fun hHeld => ?_)
            clear hK K hHeld
            refine wpAnyH_ready (rs := [8]) (by kernel_rfl) (by simp) ?_
            refine AllReadyH.cons rfl (fun K hK => ?_) ?_
            · refine step_func 44 #[.slice (some ⟨be, oe, none⟩) m cp2, .int .i64 (lo : Int), .agg #[.string s, .int .i64 1, .bool true]] (by rfl) rfl (by simp [Act.eval]) (fun _ _ => by kernel_rfl) ?_
              refine (PU.out _ TA.out).mono ?_
              rintro e uc ⟨v9, rfl, hg9⟩
              obtain ⟨A9, c9, e9⟩ := own_slice hg9.own
              rw [List.length_set, ← HM.out] at e9
              subst e9
              have HG9 := hidE hg9
              have ZC9 : Hid (SP w tp g7 uc) := ⟨ZA9.out.1.trans (Same.below hg9.since), bel_trans ZA9.out.2 hg9.since⟩
              have TC9 := hidE (bel_trans TA.out hg9.since)
              clear hg9
              refine ⟨_, rfl, ?_⟩
              refine hK.out _ _ (by exact ZC9.out) (fun hHeld => ?_)
              clear hK K hHeld
              try simp only [Act.put, List.setIfInBounds_toArray]
              refine wpAnyH_take (i := 9) (v := ?_) rfl (by kernel_rfl) (by kernel_rfl) (by kernel_rfl) (fun _ _ _ h => h) (Or.inl ⟨by rfl, ?_⟩) ZC9.out ?_
              rotate_left
              · intro wq hSw; go_simp; first | done | with_reducible rfl
              simp only [List.getElem_toArray, List.getElem_cons_zero, List.getElem_cons_succ, Act.put, List.setIfInBounds_toArray, List.set_cons_zero, List.set_cons_succ]
              refine wpAnyH_ready (rs := [10]) (by kernel_rfl) (by simp) ?_
              refine AllReadyH.cons rfl (fun K hK => ?_) ?_
              · have KC := hidE (K70.out.since TC9.out)
                have e0 : uc.cell? ⟨g7, 0, none⟩ = some (.slice (some ⟨be, oe, none⟩) m cp2) := KC.out.cell 0
                have f0 := KC.out.frozen 0
                go_simp
                clear e0 f0
                have ZF : Hid (SP w tp g7 (uc.setCell ⟨g7, 0, none⟩ (.slice A9 m c9))) := ⟨ZC9.out.1.trans (Same.setCell (a := ⟨g7, 0, none⟩) (fun d => d rfl) _), ZC9.out.2.setCell (p := ⟨g7, 0, none⟩) (by show w.heap.size ≤ g7; have := G7.out; omega) _⟩
                refine hK.out _ _ (by exact ZF.out) (fun hHeld => ?_)
                clear hK K hHeld
                refine wpAnyH_done (by kernel_rfl) ?_ _
                refine NoPanic.normal ?_
                refine hQQ.out _ _ ?_
                clear hQQ
                have GX := G7.out
                have TWL : Hid (w.heap.size ≠ g7 ∧ w.heap.size + 1 ≠ g7 ∧ w.heap.size ≤ g7) := ⟨by omega, by omega, by omega⟩
                have K9 : Hid (Blk (uc.setCell ⟨g7, 0, none⟩ (.slice A9 m c9)) g7 74 #[.slice A9 m c9, .int .i64 (ag + 1)]) := hidE (by
                  have e := KC.out.set 0 (.slice A9 m c9)
                  simpa using e)
                have f9 := K9.out.frozen 1
                have y9 : (uc.setCell ⟨g7, 0, none⟩ (.slice A9 m c9)).cell? ⟨g7, 1, none⟩ = some (.int .i64 (ag + 1)) := K9.out.cell 1
                have KT : Hid (Blk ((uc.setCell ⟨g7, 0, none⟩ (.slice A9 m c9)).setCell ⟨g7, 1, none⟩ (.int .i64 0)) w.heap.size 32 #[.int .u64 S, .int .i64 room, .int .i64 votes, .slice (some ⟨bb, o, none⟩) n cap, .int .u64 LS, .int .i64 LM, .slice LB R lcb]) := ((KT0.out.since TC9.out).other (a := ⟨g7, 0, none⟩) TWL.out.1 _).other (a := ⟨g7, 1, none⟩) TWL.out.1 _
                have RT : Hid (Blk ((uc.setCell ⟨g7, 0, none⟩ (.slice A9 m c9)).setCell ⟨g7, 1, none⟩ (.int .i64 0)) (w.heap.size + 1) 32 #[.int .u64 0, .int .i64 0, .int .i64 0, .slice none 0 0, .int .u64 0, .int .i64 0, .slice none 0 0]) := ((RT0.out.since TC9.out).other (a := ⟨g7, 0, none⟩) TWL.out.2.1 _).other (a := ⟨g7, 1, none⟩) TWL.out.2.1 _
                have K7T : Hid (Blk ((uc.setCell ⟨g7, 0, none⟩ (.slice A9 m c9)).setCell ⟨g7, 1, none⟩ (.int .i64 0)) g7 74 #[.slice A9 m c9, .int .i64 0]) := hidE (by
                  have e := K9.out.set 1 (.int .i64 0)
                  simpa using e)
                have BT : Hid (Below w.heap.size w ((uc.setCell ⟨g7, 0, none⟩ (.slice A9 m c9)).setCell ⟨g7, 1, none⟩ (.int .i64 0))) := ZF.out.2.setCell (p := ⟨g7, 1, none⟩) TWL.out.2.2 _
                have SMM : Same (fun q => q ≠ w.heap.size ∧ q ≠ w.heap.size + 1 ∧ q ≠ g7) uc ((uc.setCell ⟨g7, 0, none⟩ (.slice A9 m c9)).setCell ⟨g7, 1, none⟩ (.int .i64 0)) := (Same.setCell (a := ⟨g7, 0, none⟩) (fun d => d.2.2 rfl) _).trans (Same.setCell (a := ⟨g7, 1, none⟩) (fun d => d.2.2 rfl) _)
                have HLT : Hid (Held (fun q => q ≠ w.heap.size ∧ q ≠ w.heap.size + 1) (fun u => RowsI u (.slice LB R lcb) R (fun _ => c) ZA) ((uc.setCell ⟨g7, 0, none⟩ (.slice A9 m c9)).setCell ⟨g7, 1, none⟩ (.int .i64 0))) := ((HLT0.out.since TC9.out).same SMM).mono fun q _ d => ⟨d.1, d.2.1⟩
                have HENT : Hid (Held (fun q => q ≠ w.heap.size ∧ q ≠ w.heap.size + 1) (fun u => EntsE u (.slice A9 m c9) (⟨es.set (lowAt es) ⟨s, 1, true⟩, 0⟩ : Bkt).es) ((uc.setCell ⟨g7, 0, none⟩ (.slice A9 m c9)).setCell ⟨g7, 1, none⟩ (.int .i64 0))) := hidE (by
                  have e := ((HG9.out.held (D := (fun q => q ≠ w.heap.size ∧ q ≠ w.heap.size + 1 ∧ q ≠ g7)) fun q hq _ => by have := TA.out.size; have := G7L.out.2.1; exact ⟨by omega, by omega, by omega⟩).same SMM).mono (E := (fun q => q ≠ w.heap.size ∧ q ≠ w.heap.size + 1)) fun q _ d => ⟨d.1, d.2.1⟩
                  rw [← HLO.out] at e
                  exact e)
                clear GX K9 KC SMM HG9 HLT0 KT0 RT0 K70 KB0 BT0 ZF ZC9 TC9 TA ZA9
                go_wp2_with fail
                clear f9 y9
                generalize (uc.setCell ⟨g7, 0, none⟩ (.slice A9 m c9)).setCell ⟨g7, 1, none⟩ (.int .i64 0) = tw at KT RT K7T BT HLT HENT ⊢
                have SZT : Hid (w.heap.size + 1 < tw.heap.size ∧ g7 < tw.heap.size) := ⟨RT.out.lt, K7T.out.lt⟩
                obtain ⟨ib, hib, hz0, hz1, hz2⟩ := infoRB
                have HTB : Hid (Try.prog.info? 74 = some ib ∧ ib.zero = some (.agg #[.slice none 0 0, .int .i64 0]) ∧ ib.size = 2 ∧ ib.bytes = 32) := ⟨hib, hz0, hz1, hz2⟩
                clear hib hz0 hz1 hz2
                have BSL : Hid ((bs.set p ⟨es.set (lowAt es) ⟨s, 1, true⟩, 0⟩).length = n) := hidE (by rw [List.length_set]; exact HN.out.symm)
                have BSP : Hid ((bs.set p ⟨es.set (lowAt es) ⟨s, 1, true⟩, 0⟩)[p]? = some ⟨es.set (lowAt es) ⟨s, 1, true⟩, 0⟩) := hidE (by rw [List.getElem?_set, if_pos rfl, if_pos (by have := HN.out; omega)])
                have BSO : Hid (∀ jj, jj ≠ p → (bs.set p ⟨es.set (lowAt es) ⟨s, 1, true⟩, 0⟩)[jj]? = bs[jj]?) := hidE fun jj hi => by rw [List.getElem?_set, if_neg (fun z => hi z.symm)]
                obtain ⟨BS, hBS⟩ : ∃ BS, BS = bs.set p ⟨es.set (lowAt es) ⟨s, 1, true⟩, 0⟩ := ⟨_, rfl⟩
                have HBS := hidE hBS
                rw [← hBS] at BSL BSP BSO
                clear hBS
                have R0 : Hid (RgB (fun q => q ≠ w.heap.size ∧ q ≠ w.heap.size + 1) w tw tw (.slice none 0 0) (BS.take 0)) := ⟨BT.out, Nat.le_refl _, fun q hq => by have := SZT.out; exact ⟨by omega, by omega⟩, [], rfl, World.ownsRow_nil _ _ _ _, fun i x ev h => by simp at h⟩
                go_loopg [14, 15] n (fun gk s14 i wr => ∃ (k m : Nat) (A5 : Option Addr) (c5 : Nat), (gk = n - k ∧ k ≤ n ∧ RgB (fun q => q ≠ w.heap.size ∧ q ≠ w.heap.size + 1) w tw wr (.slice A5 m c5) (BS.take k) ∧ Below tw.heap.size tw wr) ∧ s14 = .slice A5 m c5 ∧ i = .int .i64 (k : Int))
                case atStart => exact ⟨0, 0, none, 0, ⟨rfl, by omega, R0.out, Below.refl _ _⟩, rfl, rfl⟩
                case round =>
                  clear R0
                  obtain ⟨kk, mm, A5, c5, ⟨hgk, hk, hG, hB⟩, rfl, rfl⟩ := hrel
                  have HK := hidE hgk
                  have HG := hidE hG
                  have HBW := hidE hB
                  have x3 : wr.cell? ⟨w.heap.size, 3, none⟩ = some (.slice (some ⟨bb, o, none⟩) n cap) := (KT.out.since hB).cell 3
                  clear hgk hG hB
                  have TL : Hid (mm = (BS.take kk).length) := by
                    obtain ⟨A9, c9, e9⟩ := HG.out.slice
                    cases e9
                    rfl
                  have TM : Hid (mm = kk) := by have e := TL.out; rw [List.length_take, BSL.out] at e; show mm = kk; omega
                  by_cases hz : kk < n
                  · have bk : (kk : Int) < (n : Int) := by omega
                    have bk0 : (0 : Int) ≤ (kk : Int) := by omega
                    obtain ⟨vs, vl, own, vx⟩ := id HG.out.row
                    have HVX := hidE vx
                    have HVL := hidE vl
                    have OWB := hidE own
                    have OWM : Hid (wr.ownsRow tw.heap.size 74 2 (.slice A5 mm c5) mm (bCells (vs.zip ((BS.take kk).map Bkt.ag)))) := by
                      have e := OWB.out
                      rw [← TL.out] at e
                      exact e
                    have SZ : Hid (tw.heap.size ≤ wr.heap.size) := HG.out.size
                    have mb : mm ≤ 256 := by have := TM.out; omega
                    clear vx vl own
                    by_cases kp : kk = p
                    · have qk : ((kk : Int) == (p : Int)) = true := by rw [kp]; simp
                      have NX : Hid (BS.take (kk + 1) = BS.take kk ++ [⟨es.set (lowAt es) ⟨s, 1, true⟩, 0⟩]) := hidE (take_nextE (by rw [kp]; exact BSP.out))
                      have y0 : wr.cell? ⟨g7, 0, none⟩ = some (.slice A9 m c9) := (K7T.out.since HBW.out).cell 0
                      have y1 : wr.cell? ⟨g7, 1, none⟩ = some (.int .i64 (0)) := (K7T.out.since HBW.out).cell 1
                      have HEW : Hid (Held (fun q => q ≠ w.heap.size ∧ q ≠ w.heap.size + 1 ∧ some q ≠ (Value.slice A5 mm c5).ownBlock) (fun u => EntsE u (.slice A9 m c9) (⟨es.set (lowAt es) ⟨s, 1, true⟩, 0⟩ : Bkt).es) wr) := hidE fun u e => HENT.out u ⟨by have := e.1; have := SZ.out; omega, fun q d hq => (e.2 q ⟨d.1, d.2, fun z => by have := (OWB.out.lt q z.symm).1; omega⟩ (by have := SZ.out; omega)).trans (HBW.out.block q hq)⟩
                      clear kp
                      go_wp2_with (at_builtin; refine wpList_append_lies _ rfl _ _ _ rfl tw.heap.size 74 ib (.agg #[.slice none 0 0, .int .i64 0]) 2 32 Try.underlying29 HTB.out.1 HTB.out.2.1 HTB.out.2.2.1 HTB.out.2.2.2 rfl (by omega) (.slice A5 mm c5) mm (bCells (vs.zip ((BS.take kk).map Bkt.ag))) (by rfl) (OWM.out.alloc _) ⟨wr.heap.size, 0, none⟩ 1 1 [.slice A9 m c9, .int .i64 (0)] (by rfl) rfl (new_it wr 74 _ _) (by intro z hz; simp at hz; rcases hz with rfl | rfl <;> rfl) (by omega) (by unfold maxLen; omega) (by omega) (by have := SZ.out; simp; omega) _ rfl ?_; intro gq cap1 w1 hown1 hgrow hat hlt1)
                      have HEW2 : Held (fun q => (q ≠ w.heap.size ∧ q ≠ w.heap.size + 1) ∧ some q ≠ (Value.slice A5 mm c5).ownBlock) (fun u => EntsE u (.slice A9 m c9) (⟨es.set (lowAt es) ⟨s, 1, true⟩, 0⟩ : Bkt).es) wr := HEW.out.mono fun q _ d => ⟨⟨d.1, d.2.1⟩, d.2.2⟩
                      have HS := HG.out.step (x := ⟨es.set (lowAt es) ⟨s, 1, true⟩, 0⟩) (ev := .slice A9 m c9) vs HVL.out OWB.out HVX.out HEW2 (by have := SZT.out; omega) (by
                        have e := hown1
                        rw [← TL.out]
                        exact e) hgrow (hat.imp id fun z => by rw [z]; simp)
                      rw [← TL.out] at HS
                      have B9 : Below tw.heap.size tw w1 := (HBW.out.alloc SZ.out _).grown hgrow (by have := SZ.out; simp; omega) (fun q hq => (OWB.out.lt q hq).1)
                      go_roundg (n - (kk + 1))
                      case measure => have := HK.out; omega
                      case rel => exact ⟨kk + 1, mm + 1, _, cap1, ⟨rfl, by omega, by rw [NX.out]; exact HS, B9⟩, rfl, by go_num⟩
                    · have qk : ((kk : Int) == (p : Int)) = false := by simp; omega
                      obtain ⟨y, hy⟩ : ∃ y, bs[kk]? = some y := ⟨_, List.getElem?_eq_getElem (by have := HN.out; omega)⟩
                      have NX : Hid (BS.take (kk + 1) = BS.take kk ++ [y]) := hidE (take_nextE (by rw [BSO.out kk kp]; exact hy))
                      obtain ⟨ev9, c1, c2, c3⟩ := H4.out kk y hy
                      have c1 := keep_of_below (bel_trans BT.out HBW.out) _ _ c1
                      have c2 := keep_of_below (bel_trans BT.out HBW.out) _ _ c2
                      have HEW : Hid (Held (fun q => q ≠ w.heap.size ∧ q ≠ w.heap.size + 1 ∧ some q ≠ (Value.slice A5 mm c5).ownBlock) (fun u => EntsE u ev9 y.es) wr) := hidE fun u e => c3.keep (Same.keep ⟨by have := e.1; have := (bel_trans BT.out HBW.out).size; omega, fun q _ hq => (e.2 q ⟨by omega, by omega, fun z => by have := (OWB.out.lt q z.symm).1; have := SZT.out; omega⟩ (by have := (bel_trans BT.out HBW.out).size; omega)).trans ((bel_trans BT.out HBW.out).block q hq)⟩)
                      obtain ⟨A8, c8, b8, o8, rfl, _⟩ := c3
                      obtain ⟨m8, hm8⟩ : ∃ m8, m8 = y.es.length := ⟨_, rfl⟩
                      have HM8 := hidE hm8
                      obtain ⟨ag8, hag8⟩ : ∃ ag8, ag8 = y.ag := ⟨_, rfl⟩
                      have HAG8 := hidE hag8
                      rw [← hm8] at c1 HEW
                      rw [← hag8] at c2
                      clear hy hm8 hag8 kp
                      go_wp2_with (at_builtin; refine wpList_append_lies _ rfl _ _ _ rfl tw.heap.size 74 ib (.agg #[.slice none 0 0, .int .i64 0]) 2 32 Try.underlying29 HTB.out.1 HTB.out.2.1 HTB.out.2.2.1 HTB.out.2.2.2 rfl (by omega) (.slice A5 mm c5) mm (bCells (vs.zip ((BS.take kk).map Bkt.ag))) (by rfl) (OWM.out.alloc _) ⟨wr.heap.size, 0, none⟩ 1 1 [.slice A8 m8 c8, .int .i64 (ag8)] (by rfl) rfl (new_it wr 74 _ _) (by intro z hz; simp at hz; rcases hz with rfl | rfl <;> rfl) (by omega) (by unfold maxLen; omega) (by omega) (by have := SZ.out; simp; omega) _ rfl ?_; intro gq cap1 w1 hown1 hgrow hat hlt1)
                      have HEW2 : Held (fun q => (q ≠ w.heap.size ∧ q ≠ w.heap.size + 1) ∧ some q ≠ (Value.slice A5 mm c5).ownBlock) (fun u => EntsE u (.slice A8 m8 c8) (y : Bkt).es) wr := HEW.out.mono fun q _ d => ⟨⟨d.1, d.2.1⟩, d.2.2⟩
                      have HS := HG.out.step (x := y) (ev := .slice A8 m8 c8) vs HVL.out OWB.out HVX.out HEW2 (by have := SZT.out; omega) (by
                        have e := hown1
                        rw [← TL.out]
                        rw [HAG8.out] at e
                        exact e) hgrow (hat.imp id fun z => by rw [z]; simp)
                      rw [← TL.out] at HS
                      have B9 : Below tw.heap.size tw w1 := (HBW.out.alloc SZ.out _).grown hgrow (by have := SZ.out; simp; omega) (fun q hq => (OWB.out.lt q hq).1)
                      go_roundg (n - (kk + 1))
                      case measure => have := HK.out; omega
                      case rel => exact ⟨kk + 1, mm + 1, _, cap1, ⟨rfl, by omega, by rw [NX.out]; exact HS, B9⟩, rfl, by go_num⟩
                  · have bk : ¬ (kk : Int) < (n : Int) := by omega
                    have te : Hid (BS.take kk = BS) := hidE (List.take_of_length_le (by have := BSL.out; omega))
                    have KW := hidE (KT.out.since HBW.out)
                    have RW := hidE (RT.out.since HBW.out)
                    have NL : Hid (mm = n) := by have := TM.out; show mm = n; omega
                    have f3 := KW.out.frozen 3
                    have KS : Hid (Blk (wr.setCell ⟨w.heap.size, 3, none⟩ (.slice A5 mm c5)) w.heap.size 32 #[.int .u64 S, .int .i64 room, .int .i64 votes, .slice A5 mm c5, .int .u64 LS, .int .i64 LM, .slice LB R lcb]) := set3_blk KW.out _
                    have RS : Hid (Blk (wr.setCell ⟨w.heap.size, 3, none⟩ (.slice A5 mm c5)) (w.heap.size + 1) 32 #[.int .u64 0, .int .i64 0, .int .i64 0, .slice none 0 0, .int .u64 0, .int .i64 0, .slice none 0 0]) := RW.out.other (a := ⟨w.heap.size, 3, none⟩) (by show w.heap.size + 1 ≠ w.heap.size; omega) _
                    have BS9 : Hid (Below w.heap.size w (wr.setCell ⟨w.heap.size, 3, none⟩ (.slice A5 mm c5))) := HG.out.since.setCell (p := ⟨w.heap.size, 3, none⟩) (Nat.le_refl _) _
                    have SM9 : Hid (Same (fun q => q ≠ w.heap.size ∧ q ≠ w.heap.size + 1) wr (wr.setCell ⟨w.heap.size, 3, none⟩ (.slice A5 mm c5))) := Same.setCell (a := ⟨w.heap.size, 3, none⟩) (fun d => d.1 rfl) _
                    have HBUC : Hid (Held (fun q => q ≠ w.heap.size ∧ q ≠ w.heap.size + 1) (fun u => BktsE u (.slice A5 mm c5) BS) (wr.setCell ⟨w.heap.size, 3, none⟩ (.slice A5 mm c5))) := by
                      have e := HG.out.bkts
                      rw [te.out] at e
                      exact e.same SM9.out
                    have HL9 : Hid (Held (fun q => q ≠ w.heap.size ∧ q ≠ w.heap.size + 1) (fun u => RowsI u (.slice LB R lcb) R (fun _ => c) ZA) (wr.setCell ⟨w.heap.size, 3, none⟩ (.slice A5 mm c5))) := (HLT.out.since HBW.out).same SM9.out
                    go_upto_region 36 with fail
                    clear x3 f3
                    generalize wr.setCell ⟨w.heap.size, 3, none⟩ (.slice A5 mm c5) = w9 at KS RS BS9 HBUC HL9 ⊢
                    have x0 : w9.cell? ⟨w.heap.size, 0, none⟩ = some (.int .u64 S) := KS.out.cell 0
                    have x1 : w9.cell? ⟨w.heap.size, 1, none⟩ = some (.int .i64 room) := KS.out.cell 1
                    have x2 : w9.cell? ⟨w.heap.size, 2, none⟩ = some (.int .i64 votes) := KS.out.cell 2
                    have x3 : w9.cell? ⟨w.heap.size, 3, none⟩ = some (.slice A5 mm c5) := KS.out.cell 3
                    have x4 : w9.cell? ⟨w.heap.size, 4, none⟩ = some (.int .u64 LS) := KS.out.cell 4
                    have x5 : w9.cell? ⟨w.heap.size, 5, none⟩ = some (.int .i64 LM) := KS.out.cell 5
                    have x6 : w9.cell? ⟨w.heap.size, 6, none⟩ = some (.slice LB R lcb) := KS.out.cell 6
                    have r0 : w9.cell? ⟨w.heap.size + 1, 0, none⟩ = some (.int .u64 0) := RS.out.cell 0
                    have r1 : w9.cell? ⟨w.heap.size + 1, 1, none⟩ = some (.int .i64 0) := RS.out.cell 1
                    have r2 : w9.cell? ⟨w.heap.size + 1, 2, none⟩ = some (.int .i64 0) := RS.out.cell 2
                    have r3 : w9.cell? ⟨w.heap.size + 1, 3, none⟩ = some (.slice none 0 0) := RS.out.cell 3
                    have r4 : w9.cell? ⟨w.heap.size + 1, 4, none⟩ = some (.int .u64 0) := RS.out.cell 4
                    have r5 : w9.cell? ⟨w.heap.size + 1, 5, none⟩ = some (.int .i64 0) := RS.out.cell 5
                    have r6 : w9.cell? ⟨w.heap.size + 1, 6, none⟩ = some (.slice none 0 0) := RS.out.cell 6
                    have z0 := RS.out.frozen 0
                    have z1 := RS.out.frozen 1
                    have z2 := RS.out.frozen 2
                    have z3 := RS.out.frozen 3
                    have z4 := RS.out.frozen 4
                    have z5 := RS.out.frozen 5
                    have z6 := RS.out.frozen 6
                    go_wp2_with fail
                    refine bodyPost_ret (v := .tuple #[.agg #[.int .u64 S, .int .i64 room, .int .i64 votes, .slice A5 mm c5, .int .u64 LS, .int .i64 LM, .slice LB R lcb], .bool true]) ?_ rfl ?_
                    rotate_left
                    · refine ⟨_, rfl, ?_, eput7_below BS9.out (by omega) _ _ _ _ _ _ _⟩
                      have sm : Same (fun q => q ≠ w.heap.size ∧ q ≠ w.heap.size + 1) w9 (eput7 w9 (w.heap.size + 1) (.int .u64 S) (.int .i64 room) (.int .i64 votes) (.slice A5 mm c5) (.int .u64 LS) (.int .i64 LM) (.slice LB R lcb)) := ⟨by rw [eput7_size]; exact Nat.le_refl _, fun q d hq => eput7_heap _ _ _ _ _ _ _ _ _ q d.2⟩
                      have h1 := (HBUC.out.same sm).at
                      have h2 := (HL9.out.same sm).at
                      rw [HBS.out] at h1
                      exact ⟨_, _, rfl, h1, h2⟩
                    have c3 := eput7_blk (t := 32) RS.out (.int .u64 S) (.int .i64 room) (.int .i64 votes) (.slice A5 mm c5) (.int .u64 LS) (.int .i64 LM) (.slice LB R lcb)
                    have c30 := c3.cell 0
                    have c31 := c3.cell 1
                    have c32 := c3.cell 2
                    have c33 := c3.cell 3
                    have c34 := c3.cell 4
                    have c35 := c3.cell 5
                    have c36 := c3.cell 6
                    change (results _ _).run _ (eput7 w9 (w.heap.size + 1) (.int .u64 S) (.int .i64 room) (.int .i64 votes) (.slice A5 mm c5) (.int .u64 LS) (.int .i64 LM) (.slice LB R lcb)) = .ok _ (eput7 w9 (w.heap.size + 1) (.int .u64 S) (.int .i64 room) (.int .i64 votes) (.slice A5 mm c5) (.int .u64 LS) (.int .i64 LM) (.slice LB R lcb))
                    generalize eput7 w9 (w.heap.size + 1) (.int .u64 S) (.int .i64 room) (.int .i64 votes) (.slice A5 mm c5) (.int .u64 LS) (.int .i64 LM) (.slice LB R lcb) = W5 at c30 c31 c32 c33 c34 c35 c36
                    simp [results, Try.results19, go_sem, c30, c31, c32, c33, c34, c35, c36]
              exact AllReadyH.nil
            exact AllReadyH.nil
          exact AllReadyH.nil
        exact AllReadyH.nil
      exact AllReadyH.nil
end Go.Proofs.Ytihealembikkiaa
