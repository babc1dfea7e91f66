
/-
  LeastGrows: what is told of a key never falls, and grows by no more than what comes. No condition.
-/
import Derived.Test.YtmlokipmcgnllaaRows
import Derived.Test.YtmlokipmcgnllaaLstAwake
import Derived.Test.YtmlokipmcgnllaaLstRef
import Derived.Test.YtmlokipmcgnllaaRegKit
import Derived.WalkKit
import Derived.ProofKit
import Derived.OpenShut
import Derived.ShutString
import Derived.ChangeOld
import Derived.ChangeMaps5
import Derived.Below
import Derived.Carry
import Derived.Laws.StructEq
import Derived.BigQuiet
import Derived.Deep.Cut
import Derived.Deep.CutRange
import Derived.MapKept
namespace Go.Proofs.Ytmlokipmcgnllaa.leastGrows
open Fm Bl Lt L2 Go.Deep
open Go.ChangeShapes Go.WideShapes Go.ChangeAt Go.RowKit Go.ChangeMaps
set_option linter.unusedVariables false

theorem own : ownKnob Try.prog.godebug = none := by kernel_rfl

theorem str_eq (a b : ByteArray) : (a.toList == b.toList) = true ↔ a = b := by
  rw [beq_iff_eq]
  refine ⟨fun h => ?_, fun h => by rw [h]⟩
  rw [ByteArray.toList_eq, ByteArray.toList_eq] at h
  obtain ⟨⟨x⟩⟩ := a
  obtain ⟨⟨y⟩⟩ := b
  simp only at h
  rw [h]
theorem str_ne {a b : ByteArray} (h : ¬ a = b) : (a.toList == b.toList) = false := by
  cases e : (a.toList == b.toList) with
  | false => rfl
  | true => exact absurd ((str_eq a b).1 e) h

/-- What the loop of LeastGrows keeps. -/
structure GrowsIn (w wr : World) (g : Nat) (S M : Int) (A : Option Addr) (cap R n : Nat) (Z : Nat → Nat → Int) : Prop where
  since : Below w.heap.size w wr
  box : Blk wr g 25 #[.int .u64 S, .int .i64 M, .slice A R cap]
  ge : w.heap.size ≤ g
  sk : HeldX [g] (fun u => SkAt u (.agg #[.int .u64 S, .int .i64 M, .slice A R cap]) S M R (fun _ => n) Z) wr
theorem GrowsIn.below {w wr w' : World} {g : Nat} {S M : Int} {A : Option Addr} {cap R n : Nat} {Z : Nat → Nat → Int} (h : GrowsIn w wr g S M A cap R n Z) (b : Below wr.heap.size wr w') : GrowsIn w w' g S M A cap R n Z := ⟨bel_trans h.since b, h.box.since b, h.ge, h.sk.since b⟩
theorem GrowsIn.next {w wr : World} {g : Nat} {S M : Int} {A A2 : Option Addr} {cap cap2 R n : Nat} {Z Y : Nat → Nat → Int} (h : GrowsIn w wr g S M A cap R n Z) (k : HeldX [g] (fun u => SkAt u (.agg #[.int .u64 S, .int .i64 M, .slice A2 R cap2]) S M R (fun _ => n) Y) wr) : GrowsIn w (put3 wr g (.int .u64 S) (.int .i64 M) (.slice A2 R cap2)) g S M A2 cap2 R n Y :=
  ⟨put3_below h.since h.ge _ _ _, put3_blk h.box _ _ _, h.ge, by rw [put3_eq]; exact Held.put k (fun d => d List.mem_cons_self)⟩

set_option maxRecDepth 8000 in
set_option maxHeartbeats 6400000 in
theorem walk (a0 a1 a2 a3 : Int) (v4 : Value) (F4 : Its) (s : ByteArray) (w : World) (w0 : (Lit.int .u64 a0).wf = true) (w1 : (Lit.int .i64 a1).wf = true) (w2 : (Lit.int .i64 a2).wf = true) (w3 : (Lit.int .i64 a3).wf = true) (h4 : ItemsIn w v4 F4) (ws : s.size ≤ 9223372036854775807) :
    Calls Try.prog 8 #[.int .u64 a0, .int .i64 a1, .int .i64 a2, .int .i64 a3, v4, .string s] w fun e w' => e = .returned (.bool true) ∧ Below w.heap.size w w' := by
  have uS : U a0 := bounds_u64 w0
  obtain ⟨m, K, q⟩ := F4
  obtain ⟨hL, hm, hk⟩ := h4
  simp only at hL hm hk
  obtain ⟨Al, capl, bl, ol, rfl, hx1, l3, l4⟩ := id hL
  have LA : Hid (ItAt w (.slice Al m capl) m K q) := hL
  have L3 : Hid (0 < m → Al = some ⟨bl, ol, none⟩) := l3
  have L4 : Hid (∀ i, i < m → w.cell? ⟨bl, ol + i * 2, none⟩ = some (.string (K i)) ∧ w.cell? ⟨bl, ol + i * 2 + 1, none⟩ = some (.int .i64 (q i))) := l4
  clear hL hx1 l3 l4
  by_cases hf : fitsL a1 a2 a3 = true
  rotate_left
  · have BEL0 : Hid (Below w.heap.size w w) := Below.refl _ _
    have BOX0 : Hid (Boxes w w []) := boxes_none w w
    have hff : fitsL a1 a2 a3 = false := by simpa using hf
    clear hf
    go_enter Try.func8, Try.ntmps8
    go_wp2_with fail
    refine (new_bad a0 a1 a2 a3 _ hff).mono ?_
    rintro e ww1 ⟨rfl, b1⟩
    have BEL1 := h_bel BEL0 b1
    have BOX1 := h_box BOX0 b1
    clear BEL0 BOX0
    clear b1
    have BEL2 := a_bel BEL1 (.cells #[.int .u64 0, .int .i64 0, .slice none 0 0] 25)
    have BOX2 := a_box BOX1 BEL1 (.cells #[.int .u64 0, .int .i64 0, .slice none 0 0] 25)
    have KB_f_2 := n_blk (u := ww1) 25 #[.int .u64 0, .int .i64 0, .slice none 0 0]
    clear BEL1 BOX1
    go_wp2_with fail
    refine (awake_any _).mono ?_
    rintro e ww99 ⟨rfl, b9⟩
    have BEL3 := h_bel BEL2 b9
    have BOX3 := h_box BOX2 b9
    have KB_f_3 := h_blk KB_f_2 b9
    clear BEL2 BOX2 KB_f_2
    clear b9
    go_wp2_with fail
    go_ret
    exact ⟨rfl, BEL3.out⟩
  have BEL0 : Hid (Below w.heap.size w w) := Below.refl _ _
  have BOX0 : Hid (Boxes w w []) := boxes_none w w
  have hR := (fitsL_iff _ _ _).1 hf
  obtain ⟨R, rfl⟩ : ∃ R : Nat, a1 = R := ⟨a1.toNat, by omega⟩
  obtain ⟨n, rfl⟩ : ∃ n : Nat, a2 = n := ⟨a2.toNat, by omega⟩
  have r1 : 1 ≤ R := by omega
  have r2 : R ≤ 7 := by omega
  have n1 : 1 ≤ n := by omega
  have n2 : n ≤ 256 := by omega
  have m1 : 1 ≤ a3 := by omega
  have m2 : a3 ≤ 1099511627776 := by omega
  have HF : Hid (fitsL R n a3 = true) := hf
  have OK : Hid (OkP a3 R n (fun _ _ => 0)) := ok_none (S := 1) hf
  clear hR hf
  have FA_l_0 : Hid (HeldX [] (fun uq => ItAt uq (.slice Al m capl) m K q) w) := heldX_keep fun u k => LA.out.keep k
  go_enter Try.func8, Try.ntmps8
  go_wp2_with fail
  refine (new_ok a0 a3 R n _ HF.out).mono ?_
  rintro e ww1 ⟨x1, rfl, f1, b1⟩
  obtain ⟨vf, rfl, hvf⟩ := f1.at
  obtain ⟨Af, cf, bbf, oof, rfl, hx1, hx2⟩ := hvf.read
  clear hx1 hx2 hvf
  have FA_f_1 : Hid (HeldX [] (fun uq => SkAt uq (.agg #[.int .u64 a0, .int .i64 a3, .slice Af R cf]) a0 a3 R (fun _ => n) (fun _ _ => 0)) ww1) := Held.new f1 BOX0.out
  have BEL1 := h_bel BEL0 b1
  have BOX1 := h_box BOX0 b1
  have FA_l_1 := h_fact FA_l_0 b1
  clear BEL0 BOX0 FA_l_0
  clear b1 f1
  have BEL2 := a_bel BEL1 (.cells #[.int .u64 a0, .int .i64 a3, .slice Af R cf] 25)
  have BOX2 := a_box BOX1 BEL1 (.cells #[.int .u64 a0, .int .i64 a3, .slice Af R cf] 25)
  have FA_l_2 := a_fact FA_l_1 (.cells #[.int .u64 a0, .int .i64 a3, .slice Af R cf] 25)
  have FA_f_2 := a_fact FA_f_1 (.cells #[.int .u64 a0, .int .i64 a3, .slice Af R cf] 25)
  have KB_f_2 := n_blk (u := ww1) 25 #[.int .u64 a0, .int .i64 a3, .slice Af R cf]
  clear BEL1 BOX1 FA_l_1 FA_f_1
  go_wp2_with fail
  refine (few_any _ _ m K q FA_l_2.out.at hm (fun i hi => (hk i hi).1)).mono ?_
  rintro e ww2 ⟨B, rfl, hB, hw⟩
  obtain rfl := hw
  have HB : Hid (B = true ↔ FewP m K q) := hB
  clear hB
  cases B
  · go_wp2_with fail
    refine (awake_any _).mono ?_
    rintro e ww99 ⟨rfl, b9⟩
    have BEL3 := h_bel BEL2 b9
    have BOX3 := h_box BOX2 b9
    have FA_l_3 := h_fact FA_l_2 b9
    have FA_f_3 := h_fact FA_f_2 b9
    have KB_f_3 := h_blk KB_f_2 b9
    clear BEL2 BOX2 FA_l_2 FA_f_2 KB_f_2
    clear b9
    go_wp2_with fail
    go_ret
    exact ⟨rfl, BEL3.out⟩
  obtain ⟨m40, hk2⟩ := HB.out.1 rfl
  have HK : Hid (∀ i, i < m → (K i).size ≤ 100 ∧ 0 ≤ q i ∧ q i ≤ 1073741824) := hk2
  clear HB hk hk2
  by_cases hs : s.size > 100
  · have hs2 : (s.size : Int) > 100 := by omega
    go_wp2_with fail
    refine (awake_any _).mono ?_
    rintro e ww99 ⟨rfl, b9⟩
    have BEL3 := h_bel BEL2 b9
    have BOX3 := h_box BOX2 b9
    have FA_l_3 := h_fact FA_l_2 b9
    have FA_f_3 := h_fact FA_f_2 b9
    have KB_f_3 := h_blk KB_f_2 b9
    clear BEL2 BOX2 FA_l_2 FA_f_2 KB_f_2
    clear b9
    go_wp2_with fail
    go_ret
    exact ⟨rfl, BEL3.out⟩
  have hs2 : ¬ (s.size : Int) > 100 := by omega
  have hs3 : s.size ≤ 100 := by omega
  go_wp2_with fail
  have LT : Hid (w.heap.size ≤ ww1.heap.size) := (BOX2.out _ List.mem_cons_self).1
  have GI : Hid (GrowsIn w ((ww1.alloc (.cells #[.int .u64 a0, .int .i64 a3, .slice Af R cf] 25))) ww1.heap.size a0 a3 Af cf R n (addsZ a0 a3 n (fun _ _ => 0) K q 0)) := ⟨BEL2.out, KB_f_2.out, LT.out, FA_f_2.out⟩
  clear BEL2 KB_f_2 FA_f_2 BOX2
  clear FA_l_2
  generalize (ww1.alloc (.cells #[.int .u64 a0, .int .i64 a3, .slice Af R cf] 25)) = u0 at GI ⊢
  generalize ww1.heap.size = g at GI LT ⊢
  go_loopg [46] m (fun gk i wr => ∃ (k : Nat) (A : Option Addr) (cap : Nat), (gk = m - k ∧ k ≤ m ∧ GrowsIn w wr g a0 a3 A cap R n (addsZ a0 a3 n (fun _ _ => 0) K q k)) ∧ i = .int .i64 (k : Int))
  case atStart => exact ⟨0, Af, cf, ⟨rfl, by omega, GI.out⟩, rfl⟩
  case round =>
    clear GI
    obtain ⟨k, A, cap, ⟨hg, hk, hI⟩, rfl⟩ := hrel
    have HQ : Hid (gk = m - k ∧ GrowsIn w wr g a0 a3 A cap R n (addsZ a0 a3 n (fun _ _ => 0) K q k)) := ⟨hg, hI⟩
    by_cases hlt : k < m
    · obtain rfl := L3.out (by omega)
      obtain ⟨d1, d2⟩ := L4.out k hlt
      have c1 : wr.cell? ⟨bl, ol + k * 2, none⟩ = some (.string (K k)) := keep_of_below hI.since _ _ d1
      have c2 : wr.cell? ⟨bl, ol + k * 2 + 1, none⟩ = some (.int .i64 (q k)) := keep_of_below hI.since _ _ d2
      have b1 : (k : Int) < (m : Int) := by omega
      have b0 : (0 : Int) ≤ (k : Int) := by omega
      have hkk := HK.out k hlt
      obtain ⟨y, hy⟩ : ∃ y, y = K k := ⟨_, rfl⟩
      obtain ⟨z, hz⟩ : ∃ z, z = q k := ⟨_, rfl⟩
      rw [← hy] at c1 hkk
      rw [← hz] at c2 hkk
      obtain ⟨ys, z0, z1⟩ := hkk
      have HY : Hid (y = K k ∧ z = q k) := ⟨hy, hz⟩
      clear d1 d2 hy hz
      have OKK : Hid (OkP a3 R n (addsZ a0 a3 n (fun _ _ => 0) K q k)) := OkP.adds OK.out K (fun t ht => (HK.out t (by omega)).2.1)
      obtain ⟨ZK, hZK⟩ : ∃ Z, Z = addsZ a0 a3 n (fun _ _ => 0) K q k := ⟨_, rfl⟩
      have ZN : Hid (addZ a0 a3 n ZK y z = addsZ a0 a3 n (fun _ _ => 0) K q (k + 1)) := by rw [hZK, HY.out.1, HY.out.2]; rfl
      rw [← hZK] at OKK
      have HI : Hid (GrowsIn w wr g a0 a3 A cap R n ZK) := by rw [hZK]; exact hI
      obtain ⟨G, hG⟩ : ∃ G, G = getF a3 ZK (placeN a0 s n) R := ⟨_, rfl⟩
      obtain ⟨N, hN⟩ : ∃ N, N = getF a3 (addZ a0 a3 n ZK y z) (placeN a0 s n) R := ⟨_, rfl⟩
      have g0 : 0 ≤ G := by rw [hG]; exact getF_nn OKK.out (fun i _ => placeN_lt a0 s n i n1) (Nat.le_refl _)
      have g1 : G ≤ a3 := by rw [hG]; exact (getF_le _ _ _ _).1
      have n3 : ¬ N < G := by
        have := get_grows (S := a0) OKK.out y s z0
        rw [hG, hN]; omega
      have n4 : ¬ N > G + z := by
        have := get_slow (S := a0) OKK.out y s z0
        rw [hG, hN]; omega
      have n5 : y = s → capF (G + z) a3 ≤ N := fun e => by
        have := get_more (S := a0) OKK.out s z0
        rw [hG, hN, e]; exact this
      have N5 : Hid (y = s → capF (G + z) a3 ≤ N) := n5
      have HG : Hid (G = getF a3 ZK (placeN a0 s n) R ∧ N = getF a3 (addZ a0 a3 n ZK y z) (placeN a0 s n) R) := ⟨hG, hN⟩
      have hsz : g < wr.heap.size := hI.box.lt
      have BI : Hid (Below wr.heap.size wr (wr.alloc (.cells #[.string y, .int .i64 z] 51))) := bel_alloc _ _
      have KI : Hid (Blk (wr.alloc (.cells #[.string y, .int .i64 z] 51)) wr.heap.size 51 #[.string y, .int .i64 z]) := Blk.new _ _ _
      have NG : Hid (g ≠ wr.heap.size) := Nat.ne_of_lt hsz
      clear hg hI hZK hG hN n5
      go_upto_region 7 with fail
      have HJ : Hid (GrowsIn w (wr.alloc (.cells #[.string y, .int .i64 z] 51)) g a0 a3 A cap R n ZK) := HI.out.below BI.out
      generalize wr.alloc (.cells #[.string y, .int .i64 z] 51) = u1 at BI KI HJ ⊢
      have x0 : u1.cell? ⟨g, 0, none⟩ = some (.int .u64 a0) := HJ.out.box.cell 0
      have x1 : u1.cell? ⟨g, 1, none⟩ = some (.int .i64 a3) := HJ.out.box.cell 1
      have x2 : u1.cell? ⟨g, 2, none⟩ = some (.slice A R cap) := HJ.out.box.cell 2
      clear c1 c2 HI BI
      go_wp2_with fail
      refine (get_ok _ _ a0 a3 R n ZK s HJ.out.sk.at OKK.out uS (by omega)).mono ?_
      rw [← HG.out.1]
      rintro e u2 ⟨rfl, b2⟩
      have J2 : Hid (GrowsIn w u2 g a0 a3 A cap R n ZK) := HJ.out.below b2
      have K2 : Hid (Blk u2 wr.heap.size 51 #[.string y, .int .i64 z]) := KI.out.since b2
      clear b2 HJ KI x0 x1 x2
      generalize decide (G < a3) = B1
      have x0 : u2.cell? ⟨g, 0, none⟩ = some (.int .u64 a0) := J2.out.box.cell 0
      have x1 : u2.cell? ⟨g, 1, none⟩ = some (.int .i64 a3) := J2.out.box.cell 1
      have x2 : u2.cell? ⟨g, 2, none⟩ = some (.slice A R cap) := J2.out.box.cell 2
      have i0 : u2.cell? ⟨wr.heap.size, 0, none⟩ = some (.string y) := K2.out.cell 0
      have i1 : u2.cell? ⟨wr.heap.size, 1, none⟩ = some (.int .i64 z) := K2.out.cell 1
      go_wp2_with fail
      refine (add_ok _ _ a0 a3 R n ZK y z J2.out.sk.at OKK.out uS (by omega) (by omega) (by omega)).mono ?_
      rintro e u3 ⟨xt, rfl, ft, b3⟩
      obtain ⟨vt, rfl, hvt⟩ := ft.at
      obtain ⟨At, ct, bbt, oot, rfl, hx1, hx2⟩ := hvt.read
      clear hx1 hx2 hvt x0 x1 x2 i0 i1
      have lt2 := J2.out.box.lt
      have FT : Hid (HeldX [g] (fun u => SkAt u (.agg #[.int .u64 a0, .int .i64 a3, .slice At R ct]) a0 a3 R (fun _ => n) (addZ a0 a3 n ZK y z)) u3) := ft.mono fun p _ d mm => by
        rcases List.mem_cons.1 mm with e | e
        · omega
        · cases e
      have J3 : Hid (GrowsIn w u3 g a0 a3 A cap R n ZK) := J2.out.below b3
      have K3 : Hid (Blk u3 wr.heap.size 51 #[.string y, .int .i64 z]) := K2.out.since b3
      clear b3 ft J2 K2 lt2
      go_upto_region 9 with fail
      have B4 := bel_alloc u3 (.cells #[.int .u64 a0, .int .i64 a3, .slice At R ct] 25)
      have F4 : Hid (HeldX [g] (fun u => SkAt u (.agg #[.int .u64 a0, .int .i64 a3, .slice At R ct]) a0 a3 R (fun _ => n) (addZ a0 a3 n ZK y z)) (u3.alloc (.cells #[.int .u64 a0, .int .i64 a3, .slice At R ct] 25))) := FT.out.since B4
      have J4 : Hid (GrowsIn w (u3.alloc (.cells #[.int .u64 a0, .int .i64 a3, .slice At R ct] 25)) g a0 a3 A cap R n ZK) := J3.out.below B4
      have K4 : Hid (Blk (u3.alloc (.cells #[.int .u64 a0, .int .i64 a3, .slice At R ct] 25)) wr.heap.size 51 #[.string y, .int .i64 z]) := K3.out.since B4
      have T4 : Hid (Blk (u3.alloc (.cells #[.int .u64 a0, .int .i64 a3, .slice At R ct] 25)) u3.heap.size 25 #[.int .u64 a0, .int .i64 a3, .slice At R ct]) := Blk.new _ _ _
      clear B4 FT J3 K3
      generalize u3.alloc (.cells #[.int .u64 a0, .int .i64 a3, .slice At R ct] 25) = u4 at F4 J4 K4 T4 ⊢
      generalize u3.heap.size = gt at T4 ⊢
      have t0 : u4.cell? ⟨gt, 0, none⟩ = some (.int .u64 a0) := T4.out.cell 0
      have t1 : u4.cell? ⟨gt, 1, none⟩ = some (.int .i64 a3) := T4.out.cell 1
      have t2 : u4.cell? ⟨gt, 2, none⟩ = some (.slice At R ct) := T4.out.cell 2
      go_wp2_with fail
      refine (get_ok _ _ a0 a3 R n (addZ a0 a3 n ZK y z) s F4.out.at (OKK.out.add y z0) uS (by omega)).mono ?_
      rw [← HG.out.2]
      rintro e u5 ⟨rfl, b5⟩
      have F5 : Hid (HeldX [g] (fun u => SkAt u (.agg #[.int .u64 a0, .int .i64 a3, .slice At R ct]) a0 a3 R (fun _ => n) (addZ a0 a3 n ZK y z)) u5) := F4.out.since b5
      have J5 : Hid (GrowsIn w u5 g a0 a3 A cap R n ZK) := J4.out.below b5
      have K5 : Hid (Blk u5 wr.heap.size 51 #[.string y, .int .i64 z]) := K4.out.since b5
      have T5 : Hid (Blk u5 gt 25 #[.int .u64 a0, .int .i64 a3, .slice At R ct]) := T4.out.since b5
      clear b5 F4 J4 K4 T4 t0 t1 t2
      generalize decide (N < a3) = B2
      have NX : Hid (GrowsIn w (put3 u5 g (.int .u64 a0) (.int .i64 a3) (.slice At R ct)) g a0 a3 At ct R n (addsZ a0 a3 n (fun _ _ => 0) K q (k + 1))) := by rw [← ZN.out]; exact J5.out.next F5.out
      have i0 : u5.cell? ⟨wr.heap.size, 0, none⟩ = some (.string y) := K5.out.cell 0
      have i1 : u5.cell? ⟨wr.heap.size, 1, none⟩ = some (.int .i64 z) := K5.out.cell 1
      have t0 : u5.cell? ⟨gt, 0, none⟩ = some (.int .u64 a0) := T5.out.cell 0
      have t1 : u5.cell? ⟨gt, 1, none⟩ = some (.int .i64 a3) := T5.out.cell 1
      have t2 : u5.cell? ⟨gt, 2, none⟩ = some (.slice At R ct) := T5.out.cell 2
      have x0 : u5.cell? ⟨g, 0, none⟩ = some (.int .u64 a0) := J5.out.box.cell 0
      have x1 : u5.cell? ⟨g, 1, none⟩ = some (.int .i64 a3) := J5.out.box.cell 1
      have x2 : u5.cell? ⟨g, 2, none⟩ = some (.slice A R cap) := J5.out.box.cell 2
      have y0 := J5.out.box.frozen 0
      have y1 := J5.out.box.frozen 1
      have y2 := J5.out.box.frozen 2
      clear F5 J5 K5 T5 ZN HG OKK
      by_cases hE : y = s
      · have e1 : (y.toList == s.toList) = true := (str_eq y s).2 hE
        have n6 := N5.out hE
        have HE : Hid (y = s) := hE
        clear hE N5
        by_cases hm2 : G + z ≤ a3
        · have n7 : ¬ N < G + z := by unfold capF at n6; rw [if_pos hm2] at n6; omega
          have n8 : (N != G + z) = false := by simp; omega
          clear n6
          go_wp2_with fail
          go_roundg (m - (k + 1))
          case measure => have := HQ.out.1; omega
          case rel => exact ⟨k + 1, At, ct, ⟨rfl, by omega, NX.out⟩, by go_num⟩
        · have n7 : ¬ N < a3 := by unfold capF at n6; rw [if_neg hm2] at n6; omega
          have hm3 : a3 < G + z := by omega
          clear n6
          by_cases n8 : (N != a3) = true
          · go_wp2_with fail
            go_roundg (m - (k + 1))
            case measure => have := HQ.out.1; omega
            case rel => exact ⟨k + 1, At, ct, ⟨rfl, by omega, NX.out⟩, by go_num⟩
          · have n9 : (N != a3) = false := by simpa using n8
            clear n8
            go_wp2_with fail
            go_roundg (m - (k + 1))
            case measure => have := HQ.out.1; omega
            case rel => exact ⟨k + 1, At, ct, ⟨rfl, by omega, NX.out⟩, by go_num⟩
      · have e1 : (y.toList == s.toList) = false := str_ne hE
        have HE : Hid (¬ y = s) := hE
        clear hE N5
        go_wp2_with fail
        go_roundg (m - (k + 1))
        case measure => have := HQ.out.1; omega
        case rel => exact ⟨k + 1, At, ct, ⟨rfl, by omega, NX.out⟩, by go_num⟩
    · have b1 : ¬ (k : Int) < (m : Int) := by omega
      clear hg hI
      go_wp2_with fail
      refine (awake_any _).mono ?_
      rintro e ww9 ⟨rfl, b9⟩
      go_wp2_with fail
      go_ret
      exact ⟨rfl, bel_trans HQ.out.2.since b9⟩

/-! ### The row -/
theorem laidOut : laidOutB Try.prog = true := by kernel_rfl
set_option maxRecDepth 100000 in
theorem lifted (os : Os) (started : os.Started) (H : Type) (enc : TypeId × Value → H) :
    ReturnsInHanded {} Try.checked os 8 .any (Rows.leastGrowsSpec.pre6 enc Try.prog Try.f8 Rows.leastGrowsRow.domain false) (Rows.leastGrowsSpec.post enc Try.prog Try.f8 false true false false) := by
  refine returnsInHanded_of_change (C := Try.checked) own started (by kernel_rfl) Try.func8
    (ChangeSpec.witness6 (enc := enc) (C := Try.checked) false ⟨#[], #[.int .u64 0, .int .i64 0, .int .i64 0, .int .i64 0, .slice none 0 0, .string ⟨#[]⟩], []⟩ 8 (by kernel_rfl) (by kernel_rfl) (by kernel_rfl) (by kernel_rfl)) ?_
  intro W base args ds gs before hval0 hW hcnd _
  have hval : ∀ (j : Nat) t v, Try.f8.params[j]? = some t → args[j]? = some v → Value.okWide Try.prog W .any base t v := hval0
  have hW' := hW
  obtain ⟨p, q, hA0, hV, rfl, hfz, hnd⟩ := hW
  have hA : DataW.TrodAll enc Try.prog W 0 (fun _ => true) true Try.f8.params.toList args.toList ds p := hA0
  rw [Try.params8] at hA hval
  obtain ⟨v0, vs0, d0, ds0, p0, q0, hargs, rfl, rfl, h0, r0⟩ := trodAll_cons hA
  obtain ⟨v1, vs1, d1, ds1, p1, q1, rfl, rfl, rfl, h1, r1⟩ := trodAll_cons r0
  obtain ⟨v2, vs2, d2, ds2, p2, q2, rfl, rfl, rfl, h2, r2⟩ := trodAll_cons r1
  obtain ⟨v3, vs3, d3, ds3, p3, q3, rfl, rfl, rfl, h3, r3⟩ := trodAll_cons r2
  obtain ⟨v4, vs4, d4, ds4, p4, q4, rfl, rfl, rfl, h4, r4⟩ := trodAll_cons r3
  obtain ⟨v5, vs5, d5, ds5, p5, q5, rfl, rfl, rfl, h5, r5⟩ := trodAll_cons r4
  obtain ⟨rfl, rfl, rfl⟩ := trodAll_nil r5
  obtain rfl : args = #[v0, v1, v2, v3, v4, v5] := by cases args; simp_all
  obtain ⟨rfl, rfl⟩ := trodVars_none hV
  obtain ⟨a0, rfl, rfl, rfl, w0⟩ := open_int Try.underlying22 (hval 0 22 v0 rfl rfl) h0
  obtain ⟨a1, rfl, rfl, rfl, w1⟩ := open_int Try.underlying3 (hval 1 3 v1 rfl rfl) h1
  obtain ⟨a2, rfl, rfl, rfl, w2⟩ := open_int Try.underlying3 (hval 2 3 v2 rfl rfl) h2
  obtain ⟨a3, rfl, rfl, rfl, w3⟩ := open_int Try.underlying3 (hval 3 3 v3 rfl rfl) h3
  have k4 := h4
  have lt4 : ∀ x ∈ p4, x.block < W.heap.size := by obtain ⟨m, hm⟩ := k4; exact DataW.trod_lt m _ _ _ hm
  obtain ⟨F4, w4⟩ := open_items (hval 4 47 v4 rfl rfl) h4
  obtain ⟨a5, rfl, rfl, rfl, w5⟩ := open_string Try.underlying9 (hval 5 9 v5 rfl rfl) h5
  clear hA0 hval0
  refine (walk a0 a1 a2 a3 v4 F4 a5 W w0 w1 w2 w3 w4 w5).mono fun e W' ⟨he, bel⟩ => ?_
  subst he
  exact ⟨_, rfl, _, _, _, [], _, [], hW', trodAll_mk1 (shut_bool Try.underlying4 _), (trodAll_cons_mk (shut_int Try.underlying22 w0) (trodAll_cons_mk (shut_int Try.underlying3 w1) (trodAll_cons_mk (shut_int Try.underlying3 w2) (trodAll_cons_mk (shut_int Try.underlying3 w3) (trodAll_cons_mk (Below.trod laidOut (by kernel_rfl) (of_decide_eq_true (by kernel_rfl)) k4 bel lt4) (trodAll_cons_mk (shut_string Try.underlying9 w5) trodAll_mk0)))))), rfl, bel.frame _, fun h => by cases h⟩

theorem over : Rows.leastGrowsRow.holds Try.pinned (OpenSpec.ofChange Rows.leastGrowsSpec) :=
  OpenClaim.holds_of_wide 8 Try.f8 rfl rfl rfl rfl rfl rfl rfl ⟨rfl, rfl, rfl, rfl, rfl⟩ rfl rfl rfl rfl rfl (by kernel_rfl) Try.func8 (by kernel_rfl)
    (of_decide_eq_true (by kernel_rfl)) (by unfold Func.isWrapper; first | (rw [if_pos (by decide +kernel)]; kernel_rfl) | (rw [if_neg (by decide +kernel)]; exact ⟨rfl, rfl⟩))
    (fun os started H enc _ => lifted os started H enc)

theorem proved : Rows.LeastGrowsSaid := over
end Go.Proofs.Ytmlokipmcgnllaa.leastGrows
namespace Go.Proofs.Ytmlokipmcgnllaa
theorem leastGrows_holds : Rows.LeastGrowsSaid := leastGrows.proved
#print axioms leastGrows_holds
end Go.Proofs.Ytmlokipmcgnllaa
