
/-
  The fixed answer of layer 15's laws, over the program's contracts.
-/
import Derived.Test.YtihealembikkiaaElFed
namespace Go.Proofs.Ytihealembikkiaa
open Go.RowKit Fm Bl Lt El L2 L10 L14 Go.Deep
set_option linter.unusedVariables false
set_option maxRecDepth 20000

def ka : ByteArray := ⟨#[97]⟩
def kb : ByteArray := ⟨#[98]⟩
def qab : Nat → ByteArray := fun k => if k = 0 then ka else kb
theorem place_one (S : Int) (s : ByteArray) : placeN S s 1 0 = 0 := by
  have := placeN_lt S s 1 0 (by omega)
  omega
theorem fed_ab : feedS 1 1 2 (fun s => placeN 1 s 1 0) qab 3 = ⟨[⟨[⟨kb, 1, true⟩], 0⟩], [(ka, 1), (kb, 1)]⟩ := by
  rw [show (fun s => placeN 1 s 1 0) = fun _ => 0 from funext (place_one 1)]
  kernel_rfl
theorem told_ab : ∃ gx, getE 1 8 (rowF 1 1) ⟨[⟨kb, 1, true⟩], 0⟩ (lightZ (rowF 1 1) 255 8 [(ka, 1), (kb, 1)]) ka = (0, gx, false, false) ∧ 1 ≤ gx ∧ gx ≤ 2 := by
  have sh : shapeE (1 : Nat) (1 : Nat) 2 (1 : Nat) (8 : Nat) = true := by decide
  have ln : ∀ x, x ∈ [((ka, 1) : ByteArray × Int), (kb, 1)] → 0 ≤ x.2 := fun x m => by
    simp at m
    rcases m with rfl | rfl <;> simp
  have h2 := light_all (S := rowF 1 1) (M := 255) (R := 1) (n := 8) (s := ka) (i := 0) (by omega) ln (by omega)
  have h3 := sumL_mono (P := fun k => decide (placeN (rowF 1 1) k 8 0 = placeN (rowF 1 1) ka 8 0)) (Q := fun _ => true) ln fun _ _ => rfl
  have h4 : sumL (fun _ => true) [((ka, 1) : ByteArray × Int), (kb, 1)] = 2 := rfl
  have h1 := light_own (S := rowF 1 1) (M := 255) (R := 1) (n := 8) (s := ka) (by omega) ln (by omega)
  have h5 : sumL (fun k => decide (k = ka)) [((ka, 1) : ByteArray × Int), (kb, 1)] = 1 := by kernel_rfl
  have e : atE [(⟨kb, 1, true⟩ : Ent)] ka = none := by kernel_rfl
  rw [getE_no (b := ⟨[⟨kb, 1, true⟩], 0⟩) e]
  generalize getF 255 (lightZ (rowF 1 1) 255 8 [(ka, 1), (kb, 1)]) (placeN (rowF 1 1) ka 8) 1 = gx at *
  refine ⟨gx, ?_, by omega, by omega⟩
  have n1 : ¬ gx = 0 := by omega
  have n2 : ¬ gx = 255 := by omega
  simp [n1, n2]
set_option maxHeartbeats 4000000 in
theorem eawake_any (C : CtrE) (w : World) : Calls Try.prog 10 #[] w fun e w' => e = .returned (.bool true) ∧ Below w.heap.size w w' := by
  have sh : shapeE (1 : Nat) (1 : Nat) 2 (1 : Nat) (8 : Nat) = true := by decide
  have SH := hidE sh
  have NW := hidE fun u => C.new_ok u 1 1 1 1 8 2 (by unfold U; omega) sh
  clear sh
  go_enter Try.func10, Try.ntmps10
  go_wp2_with fail
  refine (NW.out w).mono ?_
  rintro e u2 ⟨x, rfl, hx, b2⟩
  obtain ⟨a0, c0, a1, c1, hE⟩ := hx.at.form
  have hE2 : x = .agg #[.int .u64 1, .int .i64 1, .int .i64 2, .slice a0 1 c0, .int .u64 (rowF 1 1), .int .i64 255, .slice a1 1 c1] := hE
  clear hE
  subst hE2
  have X0 : Hid (Held (fun q => w.heap.size ≤ q ∧ q ≠ u2.heap.size) (fun u => ElAt u (.agg #[.int .u64 1, .int .i64 1, .int .i64 2, .slice a0 1 c0, .int .u64 (rowF 1 1), .int .i64 255, .slice a1 1 c1]) (fedF 1 2 1 1 1 8 qab 0)) (u2.alloc (.cells #[.int .u64 1, .int .i64 1, .int .i64 2, .slice a0 1 c0, .int .u64 (rowF 1 1), .int .i64 255, .slice a1 1 c1] 28))) := (Held.mono (D := fun q => w.heap.size ≤ q) (E := fun q => w.heap.size ≤ q ∧ q ≠ u2.heap.size) hx fun q hq d => ⟨d, by omega⟩).since (bel_alloc _ _)
  have B3 : Hid (Below w.heap.size w (u2.alloc (.cells #[.int .u64 1, .int .i64 1, .int .i64 2, .slice a0 1 c0, .int .u64 (rowF 1 1), .int .i64 255, .slice a1 1 c1] 28))) := bel_trans b2 (bel_alloc _ _)
  have K4 : Hid (Blk (u2.alloc (.cells #[.int .u64 1, .int .i64 1, .int .i64 2, .slice a0 1 c0, .int .u64 (rowF 1 1), .int .i64 255, .slice a1 1 c1] 28)) u2.heap.size 28 #[.int .u64 1, .int .i64 1, .int .i64 2, .slice a0 1 c0, .int .u64 (rowF 1 1), .int .i64 255, .slice a1 1 c1]) := Blk.new _ _ _
  have ZB := hidE b2.size
  have Z3 : Hid ((u2.alloc (.cells #[.int .u64 1, .int .i64 1, .int .i64 2, .slice a0 1 c0, .int .u64 (rowF 1 1), .int .i64 255, .slice a1 1 c1] 28)).heap.size = u2.heap.size + 1) := by show _ = _; simp
  clear hx b2 NW
  go_wp2_with fail
  generalize u2.alloc (.cells #[.int .u64 1, .int .i64 1, .int .i64 2, .slice a0 1 c0, .int .u64 (rowF 1 1), .int .i64 255, .slice a1 1 c1] 28) = u3 at X0 B3 K4 Z3 ⊢
  obtain ⟨g, hg⟩ : ∃ g, g = u2.heap.size := ⟨_, rfl⟩
  have GZ : Hid (w.heap.size ≤ g) := by rw [hg]; exact ZB.out
  rw [← hg] at K4 X0 Z3
  rw [← hg]
  clear hg ZB
  have K5 : Hid (Blk (u3.alloc (.cells #[.string ka, .string kb, .string kb] 9)) g 28 #[.int .u64 1, .int .i64 1, .int .i64 2, .slice a0 1 c0, .int .u64 (rowF 1 1), .int .i64 255, .slice a1 1 c1]) := K4.out.alloc _
  have X5 : Hid (Held (fun q => w.heap.size ≤ q ∧ q ≠ g) (fun u => ElAt u (.agg #[.int .u64 1, .int .i64 1, .int .i64 2, .slice a0 1 c0, .int .u64 (rowF 1 1), .int .i64 255, .slice a1 1 c1]) (fedF 1 2 1 1 1 8 qab 0)) (u3.alloc (.cells #[.string ka, .string kb, .string kb] 9))) := X0.out.since (bel_alloc _ _)
  have B5 : Hid (Below w.heap.size w (u3.alloc (.cells #[.string ka, .string kb, .string kb] 9))) := bel_trans B3.out (bel_alloc _ _)
  have KL : Hid (Blk (u3.alloc (.cells #[.string ka, .string kb, .string kb] 9)) (g + 1) 9 #[.string ka, .string kb, .string kb]) := by rw [← Z3.out]; exact Blk.new _ _ _
  have NG : Hid (g + 1 ≠ g ∧ w.heap.size ≤ g + 1) := ⟨by omega, by have := GZ.out; omega⟩
  have GL := hidE K5.out.lt
  unfold ka kb at K5 X5 B5 KL GL
  clear X0 B3 K4 Z3
  generalize u3.alloc (.cells #[.string ⟨#[97]⟩, .string ⟨#[98]⟩, .string ⟨#[98]⟩] 9) = u4 at K5 X5 B5 KL GL ⊢
  go_loopg [16] 3 (fun gk i wr => ∃ (k : Nat) (a0 : Option Addr) (c0 : Nat) (a1 : Option Addr) (c1 : Nat), (gk = 3 - k ∧ k ≤ 3 ∧ Held (fun q => w.heap.size ≤ q ∧ q ≠ g) (fun u => ElAt u (.agg #[.int .u64 1, .int .i64 1, .int .i64 2, .slice a0 1 c0, .int .u64 (rowF 1 1), .int .i64 255, .slice a1 1 c1]) (fedF 1 2 1 1 1 8 qab k)) wr ∧ Blk wr g 28 #[.int .u64 1, .int .i64 1, .int .i64 2, .slice a0 1 c0, .int .u64 (rowF 1 1), .int .i64 255, .slice a1 1 c1] ∧ Blk wr (g + 1) 9 #[.string ⟨#[97]⟩, .string ⟨#[98]⟩, .string ⟨#[98]⟩] ∧ Below w.heap.size w wr ∧ g < wr.heap.size) ∧ i = .int .i64 (k : Int))
  case atStart => exact ⟨0, a0, c0, a1, c1, ⟨rfl, by omega, X5.out, K5.out, KL.out, B5.out, GL.out⟩, rfl⟩
  case round =>
    clear X5 K5 B5 KL GL
    obtain ⟨k, a0, c0, a1, c1, ⟨hgk, hk, hX, hK, hR, hB, hgl⟩, rfl⟩ := hrel
    have XK := hidE hX
    have KG := hidE hK
    have KR := hidE hR
    have BB := hidE hB
    have HG := hidE hgk
    have GL := hidE hgl
    clear hX hK hR hB hgk hgl
    have z0 : wr.cell? ⟨g, 0, none⟩ = some (.int .u64 1) := KG.out.cell 0
    have z1 : wr.cell? ⟨g, 1, none⟩ = some (.int .i64 1) := KG.out.cell 1
    have z2 : wr.cell? ⟨g, 2, none⟩ = some (.int .i64 2) := KG.out.cell 2
    have z3 : wr.cell? ⟨g, 3, none⟩ = some (.slice a0 1 c0) := KG.out.cell 3
    have z4 : wr.cell? ⟨g, 4, none⟩ = some (.int .u64 (rowF 1 1)) := KG.out.cell 4
    have z5 : wr.cell? ⟨g, 5, none⟩ = some (.int .i64 255) := KG.out.cell 5
    have z6 : wr.cell? ⟨g, 6, none⟩ = some (.slice a1 1 c1) := KG.out.cell 6
    by_cases kz : k < 3
    · have bk : (k : Int) < 3 := by omega
      have bk0 : (0 : Int) ≤ (k : Int) := by omega
      have cl : wr.cell? ⟨g + 1, k, none⟩ = some (.string (qab k)) := by
        rw [KR.out.cell k]
        match k, kz with
        | 0, _ => rfl
        | 1, _ => rfl
        | 2, _ => rfl
      have AD : Hid (Calls Try.prog 11 #[.agg #[.int .u64 1, .int .i64 1, .int .i64 2, .slice a0 1 c0, .int .u64 (rowF 1 1), .int .i64 255, .slice a1 1 c1], .string (qab k)] wr fun e w' => ∃ a0 c0 a1 c1, e = .returned (.tuple #[.agg #[.int .u64 1, .int .i64 1, .int .i64 2, .slice a0 1 c0, .int .u64 (rowF 1 1), .int .i64 255, .slice a1 1 c1], .int .i64 0]) ∧ Held (fun q => w.heap.size ≤ q ∧ q ≠ g) (fun u => ElAt u (.agg #[.int .u64 1, .int .i64 1, .int .i64 2, .slice a0 1 c0, .int .u64 (rowF 1 1), .int .i64 255, .slice a1 1 c1]) (fedF 1 2 1 1 1 8 qab (k + 1))) w' ∧ Below wr.heap.size wr w') := fed_next C 1 2 1 1 1 8 qab (by unfold U; omega) SH.out k (by omega) (fun i _ => by unfold qab; split <;> decide) wr _ _ (fun q hq => ⟨by have := BB.out.size; omega, by have := GL.out; omega⟩) XK.out
      generalize qab k = s at cl AD
      go_wp2_with fail
      refine AD.out.mono ?_
      rintro e u5 ⟨a2, c2, a3, c3, rfl, hX, b5⟩
      have X6 := hidE hX
      have KG6 := hidE (KG.out.since b5)
      have KR6 := hidE (KR.out.since b5)
      have BB6 := hidE (bel_trans BB.out b5)
      have GL6 : Hid (g < u5.heap.size) := by have := b5.size; have := GL.out; show _ < _; omega
      clear hX b5 XK KG KR BB GL z0 z1 z2 z3 z4 z5 z6 cl AD
      have z0 : u5.cell? ⟨g, 0, none⟩ = some (.int .u64 1) := KG6.out.cell 0
      have f0 := KG6.out.frozen 0
      have z1 : u5.cell? ⟨g, 1, none⟩ = some (.int .i64 1) := KG6.out.cell 1
      have f1 := KG6.out.frozen 1
      have z2 : u5.cell? ⟨g, 2, none⟩ = some (.int .i64 2) := KG6.out.cell 2
      have f2 := KG6.out.frozen 2
      have z3 : u5.cell? ⟨g, 3, none⟩ = some (.slice a0 1 c0) := KG6.out.cell 3
      have f3 := KG6.out.frozen 3
      have z4 : u5.cell? ⟨g, 4, none⟩ = some (.int .u64 (rowF 1 1)) := KG6.out.cell 4
      have f4 := KG6.out.frozen 4
      have z5 : u5.cell? ⟨g, 5, none⟩ = some (.int .i64 255) := KG6.out.cell 5
      have f5 := KG6.out.frozen 5
      have z6 : u5.cell? ⟨g, 6, none⟩ = some (.slice a1 1 c1) := KG6.out.cell 6
      have f6 := KG6.out.frozen 6
      go_wp2_with fail
      go_roundg (3 - (k + 1))
      case measure => have := HG.out; omega
      case rel =>
        refine ⟨k + 1, a2, c2, a3, c3, ⟨rfl, by omega, put7_held X6.out (fun d => d.2 rfl) _ _ _ _ _ _ _, put7_blk KG6.out _ _ _ _ _ _ _, put7_other KR6.out NG.out.1 _ _ _ _ _ _ _, put7_below BB6.out GZ.out _ _ _ _ _ _ _, ?_⟩, by go_num⟩
        have e := put7_size u5 g (.int .u64 1) (.int .i64 1) (.int .i64 2) (.slice a2 1 c2) (.int .u64 (rowF 1 1)) (.int .i64 255) (.slice a3 1 c3)
        exact Nat.lt_of_lt_of_eq GL6.out e.symm
    · have bk : ¬ (k : Int) < 3 := by omega
      obtain rfl : k = 3 := by omega
      obtain ⟨gx, ht, g1, g2⟩ := told_ab
      have FE : fedF 1 2 1 1 1 8 qab 3 = elF 1 (1 : Nat) 2 [⟨[⟨kb, 1, true⟩], 0⟩] 1 8 (lightZ (rowF 1 1) 255 8 [(ka, 1), (kb, 1)]) := by unfold fedF; rw [fed_ab]
      have RT : Hid (RightE (elF 1 (1 : Nat) 2 [⟨[⟨kb, 1, true⟩], 0⟩] 1 8 (lightZ (rowF 1 1) 255 8 [(ka, 1), (kb, 1)]))) := by
        have iv := feed_inv (N := 1) (room := 1) (votes := 2) (pl := fun s => placeN 1 s 1 0) (q := qab) (by omega) 3 (by omega) fun i _ => by show placeN 1 (qab i) 1 0 < 1; rw [place_one]; omega
        rw [fed_ab] at iv
        exact inv_right iv SH.out (by omega) (lightZ_ok (ok_zero SH.out) fun x m => (iv.light x m).1)
      have SO : Hid (ShortE [⟨[⟨kb, 1, true⟩], 0⟩]) := fun i b hb j e he => by
        match i, hb with
        | 0, hb =>
          simp at hb
          subst hb
          match j, he with
          | 0, he =>
            simp at he
            subst he
            decide
      rw [FE] at XK
      clear FE
      have GT := hidE fun u (h : ElAt u (.agg #[.int .u64 1, .int .i64 1, .int .i64 2, .slice a0 1 c0, .int .u64 (rowF 1 1), .int .i64 255, .slice a1 1 c1]) (elF 1 (1 : Nat) 2 [⟨[⟨kb, 1, true⟩], 0⟩] 1 8 (lightZ (rowF 1 1) 255 8 [(ka, 1), (kb, 1)]))) => C.get_ok u (.agg #[.int .u64 1, .int .i64 1, .int .i64 2, .slice a0 1 c0, .int .u64 (rowF 1 1), .int .i64 255, .slice a1 1 c1]) 1 (1 : Nat) 2 [⟨[⟨kb, 1, true⟩], 0⟩] 1 8 _ ka ⟨[⟨kb, 1, true⟩], 0⟩ 0 gx false false h (by unfold U; omega) RT.out SO.out (by decide) (by show ([⟨[⟨kb, 1, true⟩], 0⟩] : List Bkt)[placeN 1 ka 1 0]? = _; rw [place_one]; rfl) ht
      have LT := hidE fun u (h : ElAt u (.agg #[.int .u64 1, .int .i64 1, .int .i64 2, .slice a0 1 c0, .int .u64 (rowF 1 1), .int .i64 255, .slice a1 1 c1]) (elF 1 (1 : Nat) 2 [⟨[⟨kb, 1, true⟩], 0⟩] 1 8 (lightZ (rowF 1 1) 255 8 [(ka, 1), (kb, 1)]))) => C.list_ok u (.agg #[.int .u64 1, .int .i64 1, .int .i64 2, .slice a0 1 c0, .int .u64 (rowF 1 1), .int .i64 255, .slice a1 1 c1]) _ 1 h (by show U 1; unfold U; omega) RT.out SO.out (by unfold I; omega)
      have LB : listBs 1 [] [⟨[⟨kb, 1, true⟩], 0⟩] = [⟨kb, 1⟩] := by kernel_rfl
      have LBH := hidE LB
      clear ht LB
      unfold ka at GT
      go_wp2_with fail
      refine (GT.out wr XK.out.at).mono ?_
      rintro e v1 ⟨rfl, b1⟩
      have X1 := hidE (XK.out.since b1)
      have K1 := hidE (KG.out.since b1)
      have BB1 := hidE (bel_trans BB.out b1)
      clear b1 z0 z1 z2 z3 z4 z5 z6
      have z0 : v1.cell? ⟨g, 0, none⟩ = some (.int .u64 1) := K1.out.cell 0
      have z1 : v1.cell? ⟨g, 1, none⟩ = some (.int .i64 1) := K1.out.cell 1
      have z2 : v1.cell? ⟨g, 2, none⟩ = some (.int .i64 2) := K1.out.cell 2
      have z3 : v1.cell? ⟨g, 3, none⟩ = some (.slice a0 1 c0) := K1.out.cell 3
      have z4 : v1.cell? ⟨g, 4, none⟩ = some (.int .u64 (rowF 1 1)) := K1.out.cell 4
      have z5 : v1.cell? ⟨g, 5, none⟩ = some (.int .i64 255) := K1.out.cell 5
      have z6 : v1.cell? ⟨g, 6, none⟩ = some (.slice a1 1 c1) := K1.out.cell 6
      go_wp2_with fail
      refine (LT.out v1 X1.out.at).mono ?_
      rintro e v2 ⟨lv, rfl, hl, b2⟩
      have BB2 := hidE (bel_trans BB1.out b2)
      have hi := hl.its
      change ItsL v2 lv (listBs 1 [] [⟨[⟨kb, 1, true⟩], 0⟩]) at hi
      rw [LBH.out] at hi
      obtain ⟨A, cap, b, o, rfl, _, h3, h4⟩ := hi
      obtain rfl := h3 (by decide)
      obtain ⟨d0, d1⟩ := h4 0 _ rfl
      simp only [List.length_cons, List.length_nil, Nat.zero_mul, Nat.add_zero, Nat.zero_add, kb] at d0 d1 ⊢
      have q1 : gx ≥ 1 := g1
      clear hl b2 h3 h4
      go_wp2_with fail
      go_ret
      exact ⟨rfl, BB2.out⟩
end Go.Proofs.Ytihealembikkiaa
