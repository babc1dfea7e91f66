
/-
  LeastBounds: what is told of a key is at least what was added for it, if it is not full; and at most what came to any cell of it. No condition.
-/
import Derived.Test.YtmlokipmcgnllaaRows
import Derived.Test.YtmlokipmcgnllaaLstAwake
import Derived.Test.YtmlokipmcgnllaaLstRef
import Derived.Test.YtmlokipmcgnllaaRegKit
import Derived.WalkKit
import Derived.ProofKit
import Derived.OpenShut
import Derived.ShutString
import Derived.ChangeOld
import Derived.ChangeMaps5
import Derived.Below
import Derived.Carry
import Derived.Laws.StructEq
import Derived.BigQuiet
import Derived.Deep.Cut
import Derived.Deep.CutRange
import Derived.MapKept
namespace Go.Proofs.Ytmlokipmcgnllaa.leastBounds
open Fm Bl Lt L2 Go.Deep
open Go.ChangeShapes Go.WideShapes Go.ChangeAt Go.RowKit Go.ChangeMaps
set_option linter.unusedVariables false

theorem own : ownKnob Try.prog.godebug = none := by kernel_rfl

theorem str_eq (a b : ByteArray) : (a.toList == b.toList) = true ↔ a = b := by
  rw [beq_iff_eq]
  refine ⟨fun h => ?_, fun h => by rw [h]⟩
  rw [ByteArray.toList_eq, ByteArray.toList_eq] at h
  obtain ⟨⟨x⟩⟩ := a
  obtain ⟨⟨y⟩⟩ := b
  simp only at h
  rw [h]
theorem str_ne {a b : ByteArray} (h : ¬ a = b) : (a.toList == b.toList) = false := by
  cases e : (a.toList == b.toList) with
  | false => rfl
  | true => exact absurd ((str_eq a b).1 e) h

set_option maxRecDepth 8000 in
set_option maxHeartbeats 6400000 in
theorem walk (a0 a1 a2 a3 : Int) (v4 : Value) (F4 : Its) (s : ByteArray) (w : World) (w0 : (Lit.int .u64 a0).wf = true) (w1 : (Lit.int .i64 a1).wf = true) (w2 : (Lit.int .i64 a2).wf = true) (w3 : (Lit.int .i64 a3).wf = true) (h4 : ItemsIn w v4 F4) (ws : s.size ≤ 9223372036854775807) :
    Calls Try.prog 6 #[.int .u64 a0, .int .i64 a1, .int .i64 a2, .int .i64 a3, v4, .string s] w fun e w' => e = .returned (.bool true) ∧ Below w.heap.size w w' := by
  have uS : U a0 := bounds_u64 w0
  obtain ⟨m, K, q⟩ := F4
  obtain ⟨hL, hm, hk⟩ := h4
  simp only at hL hm hk
  obtain ⟨Al, capl, bl, ol, rfl, hx1, l3, l4⟩ := id hL
  have LA : Hid (ItAt w (.slice Al m capl) m K q) := hL
  have L3 : Hid (0 < m → Al = some ⟨bl, ol, none⟩) := l3
  have L4 : Hid (∀ i, i < m → w.cell? ⟨bl, ol + i * 2, none⟩ = some (.string (K i)) ∧ w.cell? ⟨bl, ol + i * 2 + 1, none⟩ = some (.int .i64 (q i))) := l4
  clear hL hx1 l3 l4
  by_cases hf : fitsL a1 a2 a3 = true
  rotate_left
  · have BEL0 : Hid (Below w.heap.size w w) := Below.refl _ _
    have BOX0 : Hid (Boxes w w []) := boxes_none w w
    have hff : fitsL a1 a2 a3 = false := by simpa using hf
    clear hf
    go_enter Try.func6, Try.ntmps6
    go_wp2_with fail
    refine (new_bad a0 a1 a2 a3 _ hff).mono ?_
    rintro e ww1 ⟨rfl, b1⟩
    have BEL1 := h_bel BEL0 b1
    have BOX1 := h_box BOX0 b1
    clear BEL0 BOX0
    clear b1
    have BEL2 := a_bel BEL1 (.cells #[.int .u64 0, .int .i64 0, .slice none 0 0] 25)
    have BOX2 := a_box BOX1 BEL1 (.cells #[.int .u64 0, .int .i64 0, .slice none 0 0] 25)
    have KB_f_2 := n_blk (u := ww1) 25 #[.int .u64 0, .int .i64 0, .slice none 0 0]
    clear BEL1 BOX1
    go_wp2_with fail
    refine (awake_any _).mono ?_
    rintro e ww99 ⟨rfl, b9⟩
    have BEL3 := h_bel BEL2 b9
    have BOX3 := h_box BOX2 b9
    have KB_f_3 := h_blk KB_f_2 b9
    clear BEL2 BOX2 KB_f_2
    clear b9
    go_wp2_with fail
    go_ret
    exact ⟨rfl, BEL3.out⟩
  have BEL0 : Hid (Below w.heap.size w w) := Below.refl _ _
  have BOX0 : Hid (Boxes w w []) := boxes_none w w
  have hR := (fitsL_iff _ _ _).1 hf
  obtain ⟨R, rfl⟩ : ∃ R : Nat, a1 = R := ⟨a1.toNat, by omega⟩
  obtain ⟨n, rfl⟩ : ∃ n : Nat, a2 = n := ⟨a2.toNat, by omega⟩
  have r1 : 1 ≤ R := by omega
  have r2 : R ≤ 7 := by omega
  have n1 : 1 ≤ n := by omega
  have n2 : n ≤ 256 := by omega
  have m1 : 1 ≤ a3 := by omega
  have m2 : a3 ≤ 1099511627776 := by omega
  have HF : Hid (fitsL R n a3 = true) := hf
  have OK : Hid (OkP a3 R n (fun _ _ => 0)) := ok_none (S := 1) hf
  clear hR hf
  have FA_l_0 : Hid (HeldX [] (fun uq => ItAt uq (.slice Al m capl) m K q) w) := heldX_keep fun u k => LA.out.keep k
  go_enter Try.func6, Try.ntmps6
  go_wp2_with fail
  refine (new_ok a0 a3 R n _ HF.out).mono ?_
  rintro e ww1 ⟨x1, rfl, f1, b1⟩
  obtain ⟨vf, rfl, hvf⟩ := f1.at
  obtain ⟨Af, cf, bbf, oof, rfl, hx1, hx2⟩ := hvf.read
  clear hx1 hx2 hvf
  have FA_f_1 : Hid (HeldX [] (fun uq => SkAt uq (.agg #[.int .u64 a0, .int .i64 a3, .slice Af R cf]) a0 a3 R (fun _ => n) (fun _ _ => 0)) ww1) := Held.new f1 BOX0.out
  have BEL1 := h_bel BEL0 b1
  have BOX1 := h_box BOX0 b1
  have FA_l_1 := h_fact FA_l_0 b1
  clear BEL0 BOX0 FA_l_0
  clear b1 f1
  have BEL2 := a_bel BEL1 (.cells #[.int .u64 a0, .int .i64 a3, .slice Af R cf] 25)
  have BOX2 := a_box BOX1 BEL1 (.cells #[.int .u64 a0, .int .i64 a3, .slice Af R cf] 25)
  have FA_l_2 := a_fact FA_l_1 (.cells #[.int .u64 a0, .int .i64 a3, .slice Af R cf] 25)
  have FA_f_2 := a_fact FA_f_1 (.cells #[.int .u64 a0, .int .i64 a3, .slice Af R cf] 25)
  have KB_f_2 := n_blk (u := ww1) 25 #[.int .u64 a0, .int .i64 a3, .slice Af R cf]
  clear BEL1 BOX1 FA_l_1 FA_f_1
  go_wp2_with fail
  refine (few_any _ _ m K q FA_l_2.out.at hm (fun i hi => (hk i hi).1)).mono ?_
  rintro e ww2 ⟨B, rfl, hB, hw⟩
  obtain rfl := hw
  have HB : Hid (B = true ↔ FewP m K q) := hB
  clear hB
  cases B
  · go_wp2_with fail
    refine (awake_any _).mono ?_
    rintro e ww99 ⟨rfl, b9⟩
    have BEL3 := h_bel BEL2 b9
    have BOX3 := h_box BOX2 b9
    have FA_l_3 := h_fact FA_l_2 b9
    have FA_f_3 := h_fact FA_f_2 b9
    have KB_f_3 := h_blk KB_f_2 b9
    clear BEL2 BOX2 FA_l_2 FA_f_2 KB_f_2
    clear b9
    go_wp2_with fail
    go_ret
    exact ⟨rfl, BEL3.out⟩
  obtain ⟨m40, hk2⟩ := HB.out.1 rfl
  have HK : Hid (∀ i, i < m → (K i).size ≤ 100 ∧ 0 ≤ q i ∧ q i ≤ 1073741824) := hk2
  clear HB hk hk2
  by_cases hs : s.size > 100
  · have hs2 : (s.size : Int) > 100 := by omega
    go_wp2_with fail
    refine (awake_any _).mono ?_
    rintro e ww99 ⟨rfl, b9⟩
    have BEL3 := h_bel BEL2 b9
    have BOX3 := h_box BOX2 b9
    have FA_l_3 := h_fact FA_l_2 b9
    have FA_f_3 := h_fact FA_f_2 b9
    have KB_f_3 := h_blk KB_f_2 b9
    clear BEL2 BOX2 FA_l_2 FA_f_2 KB_f_2
    clear b9
    go_wp2_with fail
    go_ret
    exact ⟨rfl, BEL3.out⟩
  have hs2 : ¬ (s.size : Int) > 100 := by omega
  have hs3 : s.size ≤ 100 := by omega
  have CE_f_0 : (ww1.alloc (.cells #[.int .u64 a0, .int .i64 a3, .slice Af R cf] 25)).cell? ⟨ww1.heap.size, 0, none⟩ = some (.int .u64 a0) := KB_f_2.out.cell 0
  have CE_f_1 : (ww1.alloc (.cells #[.int .u64 a0, .int .i64 a3, .slice Af R cf] 25)).cell? ⟨ww1.heap.size, 1, none⟩ = some (.int .i64 a3) := KB_f_2.out.cell 1
  have CE_f_2 : (ww1.alloc (.cells #[.int .u64 a0, .int .i64 a3, .slice Af R cf] 25)).cell? ⟨ww1.heap.size, 2, none⟩ = some (.slice Af R cf) := KB_f_2.out.cell 2
  have CE_f_lt : ww1.heap.size < (ww1.alloc (.cells #[.int .u64 a0, .int .i64 a3, .slice Af R cf] 25)).heap.size := KB_f_2.out.lt
  have OKM : Hid (OkP a3 R n (addsZ a0 a3 n (fun _ _ => 0) K q m)) := OkP.adds OK.out K (fun t ht => (HK.out t ht).2.1)
  go_wp2_with fail
  refine (adds_any _ _ _ [ww1.heap.size] a0 a3 R n m _ K q FA_f_2.out (fun g hg => (BOX2.out g hg).2) FA_l_2.out.at OK.out uS (by omega) HK.out).mono ?_
  rintro e ww3 ⟨A2, cap2, rfl, f2, b2⟩
  clear CE_f_0 CE_f_1 CE_f_2 CE_f_lt
  have BEL3 := h_bel BEL2 b2
  have BOX3 := h_box BOX2 b2
  have FA_l_3 := h_fact FA_l_2 b2
  have FA_f_3 := h_fact FA_f_2 b2
  have KB_f_3 := h_blk KB_f_2 b2
  clear BEL2 BOX2 FA_l_2 FA_f_2 KB_f_2
  clear b2
  have FA_g_3 : Hid (HeldX [ww1.heap.size] (fun uq => SkAt uq (.agg #[.int .u64 a0, .int .i64 a3, .slice A2 R cap2]) a0 a3 R (fun _ => n) (addsZ a0 a3 n (fun _ _ => 0) K q m)) ww3) := f2
  clear f2
  have CE_f_0 : ww3.cell? ⟨ww1.heap.size, 0, none⟩ = some (.int .u64 a0) := KB_f_3.out.cell 0
  have CF_f_0 : ww3.frozen? ⟨ww1.heap.size, 0, none⟩ = false := KB_f_3.out.frozen 0
  have CE_f_1 : ww3.cell? ⟨ww1.heap.size, 1, none⟩ = some (.int .i64 a3) := KB_f_3.out.cell 1
  have CF_f_1 : ww3.frozen? ⟨ww1.heap.size, 1, none⟩ = false := KB_f_3.out.frozen 1
  have CE_f_2 : ww3.cell? ⟨ww1.heap.size, 2, none⟩ = some (.slice Af R cf) := KB_f_3.out.cell 2
  have CF_f_2 : ww3.frozen? ⟨ww1.heap.size, 2, none⟩ = false := KB_f_3.out.frozen 2
  have CE_f_lt : ww1.heap.size < ww3.heap.size := KB_f_3.out.lt
  have pe := put3_eq ww3 ww1.heap.size (.int .u64 a0) (.int .i64 a3) (.slice A2 R cap2)
  have BEL4 := p_bel pe BEL3 BOX3 List.mem_cons_self
  have BOX4 := p_box pe BOX3
  have FA_l_4 := p_fact pe FA_l_3 List.mem_cons_self
  have FA_f_4 := p_fact pe FA_f_3 List.mem_cons_self
  have FA_g_4 := p_fact pe FA_g_3 List.mem_cons_self
  have KB_f_4 : Hid (Blk (put3 ww3 ww1.heap.size (.int .u64 a0) (.int .i64 a3) (.slice A2 R cap2)) ww1.heap.size 25 #[.int .u64 a0, .int .i64 a3, .slice A2 R cap2]) := p_blk pe KB_f_3 rfl
  clear pe BEL3 BOX3 FA_l_3 FA_f_3 FA_g_3 KB_f_3
  obtain ⟨G, hG⟩ : ∃ G, G = getF a3 (addsZ a0 a3 n (fun _ _ => 0) K q m) (placeN a0 s n) R := ⟨_, rfl⟩
  go_wp2_with fail
  refine (get_ok _ _ a0 a3 R n _ s FA_g_4.out.at OKM.out uS (by omega)).mono ?_
  rintro e ww4 ⟨rfl, b4⟩
  have BEL5 := h_bel BEL4 b4
  have BOX5 := h_box BOX4 b4
  have FA_l_5 := h_fact FA_l_4 b4
  have FA_f_5 := h_fact FA_f_4 b4
  have FA_g_5 := h_fact FA_g_4 b4
  have KB_f_5 := h_blk KB_f_4 b4
  clear BEL4 BOX4 FA_l_4 FA_f_4 FA_g_4 KB_f_4
  clear b4
  clear CE_f_0 CF_f_0 CE_f_1 CF_f_1 CE_f_2 CF_f_2 CE_f_lt
  rw [← hG]
  obtain ⟨B, hB⟩ : ∃ B, B = decide (G < a3) := ⟨_, rfl⟩
  rw [← hB]
  have g0 : G ≤ a3 := by rw [hG]; exact (getF_le _ _ _ _).1
  have GO : Hid (G < a3 → ownF K q s m ≤ G) := fun h => by rw [hG] at h ⊢; exact get_own m1 (fun t ht => (HK.out t ht).2.1) h
  have GA : Hid (∀ i, i < R → G ≤ sumZ a0 n K q i (placeN a0 s n i) m) := fun i hi => by rw [hG]; exact get_all m1 (fun t ht => (HK.out t ht).2.1) hi
  have HB : Hid (B = decide (G < a3)) := hB
  have gn : 0 ≤ G := by rw [hG]; exact getF_nn OKM.out (fun i _ => placeN_lt a0 s n i n1) (Nat.le_refl _)
  clear hG hB
  clear FA_g_5 FA_f_5 FA_l_5 KB_f_5 BOX5
  go_wp2_with fail
  go_loopg [17, 56] m (fun gk o i wr => ∃ (k : Nat) (O : Int), (gk = m - k ∧ k ≤ m ∧ O = ownF K q s k ∧ Below ww4.heap.size ww4 wr) ∧ o = .int .i64 O ∧ i = .int .i64 (k : Int))
  case atStart => exact ⟨0, 0, ⟨rfl, by omega, rfl, Below.refl _ _⟩, rfl, rfl⟩
  case round =>
    obtain ⟨k, O, ⟨hg, hk, hO, hb⟩, rfl, rfl⟩ := hrel
    have HQ : Hid (gk = m - k ∧ O = ownF K q s k ∧ Below ww4.heap.size ww4 wr) := ⟨hg, hO, hb⟩
    have o0 : 0 ≤ O := by rw [hO]; exact own_nn fun t ht => (HK.out t (by omega)).2.1
    have o1 : O ≤ 42949672960 := by
      have := own_le_nat (l := K) (q := q) (s := s) (m := 1073741824) (by omega) (k := k) fun t ht => (HK.out t (by omega)).2
      rw [hO]; omega
    by_cases hlt : k < m
    · obtain rfl := L3.out (by omega)
      obtain ⟨d1, d2⟩ := L4.out k hlt
      have c1 : wr.cell? ⟨bl, ol + k * 2, none⟩ = some (.string (K k)) := keep_of_below (bel_trans BEL5.out hb) _ _ d1
      have c2 : wr.cell? ⟨bl, ol + k * 2 + 1, none⟩ = some (.int .i64 (q k)) := keep_of_below (bel_trans BEL5.out hb) _ _ d2
      have b1 : (k : Int) < (m : Int) := by omega
      have b0 : (0 : Int) ≤ (k : Int) := by omega
      have hkk := HK.out k hlt
      obtain ⟨y, hy⟩ : ∃ y, y = K k := ⟨_, rfl⟩
      obtain ⟨z, hz⟩ : ∃ z, z = q k := ⟨_, rfl⟩
      rw [← hy] at c1 hkk
      rw [← hz] at c2 hkk
      obtain ⟨ys, z0, z1⟩ := hkk
      have HY : Hid (y = K k ∧ z = q k) := ⟨hy, hz⟩
      clear d1 d2 hy hz
      have hsz := hb.size
      clear hg hO
      by_cases hE : y = s
      · have e1 : (y.toList == s.toList) = true := (str_eq y s).2 hE
        have HE : Hid (y = s) := hE
        have BI : Hid (Below ww4.heap.size ww4 (wr.alloc (.cells #[.string y, .int .i64 z] 51))) := bel_trans hb (bel_alloc _ _)
        clear hE hb
        go_wp2_with fail
        go_roundg (m - (k + 1))
        case measure => have := HQ.out.1; omega
        case rel => exact ⟨k + 1, O + z, ⟨rfl, by omega, by show O + z = ownF K q s k + (if K k = s then q k else 0); rw [← HY.out.1, ← HY.out.2, if_pos HE.out, HQ.out.2.1], BI.out⟩, by go_num, by go_num⟩
      · have e1 : (y.toList == s.toList) = false := str_ne hE
        have HE : Hid (¬ y = s) := hE
        have BI : Hid (Below ww4.heap.size ww4 (wr.alloc (.cells #[.string y, .int .i64 z] 51))) := bel_trans hb (bel_alloc _ _)
        clear hE hb
        go_wp2_with fail
        go_roundg (m - (k + 1))
        case measure => have := HQ.out.1; omega
        case rel => exact ⟨k + 1, O, ⟨rfl, by omega, by show O = ownF K q s k + (if K k = s then q k else 0); rw [← HY.out.1, ← HY.out.2, if_neg HE.out, Int.add_zero, HQ.out.2.1], BI.out⟩, by go_num, by go_num⟩
    · obtain rfl : m = k := by omega
      have b1 : ¬ (m : Int) < (m : Int) := by omega
      have OE := hO
      have HO : Hid (G < a3 → O ≤ G) := fun h => by rw [hO]; exact GO.out h
      have HW : Hid (Below ww4.heap.size ww4 wr) := hb
      have g1 : ¬ G > a3 := by omega
      clear hg hO hb OE GO HQ
      cases B with
      | true =>
        have lt : G < a3 := by
          have := HB.out
          by_cases h : G < a3
          · exact h
          · rw [decide_eq_false h] at this; cases this
        have g3 : ¬ G < O := by have := HO.out lt; omega
        clear HO HB
        go_wp2_with fail
        go_loopg [20] R (fun gk i wz => ∃ k : Nat, (gk = R - k ∧ k ≤ R ∧ Below ww4.heap.size ww4 wz) ∧ i = .int .i64 (k : Int))
        case atStart => exact ⟨0, ⟨rfl, by omega, HW.out⟩, rfl⟩
        case round =>
          clear HW
          obtain ⟨k, ⟨hg, hk, hb⟩, rfl⟩ := hrel
          have HQ : Hid (gk = R - k ∧ Below ww4.heap.size ww4 wr) := ⟨hg, hb⟩
          clear hg hb
          by_cases hkl : k < R
          · have bk : (k : Int) < (R : Int) := by omega
            obtain ⟨PS, hPS⟩ : ∃ PS, PS = placeN a0 s n k := ⟨_, rfl⟩
            have psl : PS < n := by rw [hPS]; exact placeN_lt a0 s n k n1
            have CS : Hid (∀ w1, Calls Try.prog 24 #[.int .u64 a0, .string s, .int .i64 (k : Int), .int .i64 (n : Int)] w1 fun e w' => e = .returned (.int .i64 (PS : Int)) ∧ Below w1.heap.size w1 w') := fun w1 => by
              rw [hPS]; exact rlcell_any a0 s k n w1 uS (by omega) (by omega) n1 (by omega)
            have HS : Hid (PS = placeN a0 s n k) := hPS
            clear hPS
            go_wp2_with fail
            go_loopg [21, 96] m (fun gj o i wi => ∃ (c : Nat) (O : Int), (gj = m - c ∧ c ≤ m ∧ O = sumZ a0 n K q k PS c ∧ Below ww4.heap.size ww4 wi) ∧ o = .int .i64 O ∧ i = .int .i64 (c : Int))
            case atStart => exact ⟨0, 0, ⟨rfl, by omega, rfl, HQ.out.2⟩, rfl, rfl⟩
            case round =>
              obtain ⟨c, O, ⟨hg, hc, hO, hb⟩, rfl, rfl⟩ := hrel
              have HJ : Hid (gk = m - c ∧ O = sumZ a0 n K q k PS c ∧ Below ww4.heap.size ww4 wr) := ⟨hg, hO, hb⟩
              have o0 : 0 ≤ O := by rw [hO]; exact sumZ_nn fun t ht => (HK.out t (by omega)).2.1
              have o1 : O ≤ 42949672960 := by
                have := sum_le_nat (S := a0) (n := n) (l := K) (q := q) (i := k) (j := PS) (m := 1073741824) (by omega) (k := c) fun t ht => (HK.out t (by omega)).2
                rw [hO]; omega
              by_cases hlt : c < m
              · obtain rfl := L3.out (by omega)
                obtain ⟨d1, d2⟩ := L4.out c hlt
                have c1 : wr.cell? ⟨bl, ol + c * 2, none⟩ = some (.string (K c)) := keep_of_below (bel_trans BEL5.out hb) _ _ d1
                have c2 : wr.cell? ⟨bl, ol + c * 2 + 1, none⟩ = some (.int .i64 (q c)) := keep_of_below (bel_trans BEL5.out hb) _ _ d2
                have b1 : (c : Int) < (m : Int) := by omega
                have b0 : (0 : Int) ≤ (c : Int) := by omega
                have hkk := HK.out c hlt
                obtain ⟨y, hy⟩ : ∃ y, y = K c := ⟨_, rfl⟩
                obtain ⟨z, hz⟩ : ∃ z, z = q c := ⟨_, rfl⟩
                rw [← hy] at c1 hkk
                rw [← hz] at c2 hkk
                obtain ⟨ys, z0, z1⟩ := hkk
                have HY : Hid (y = K c ∧ z = q c) := ⟨hy, hz⟩
                clear d1 d2 hy hz
                obtain ⟨PY, hPY⟩ : ∃ PY, PY = placeN a0 y n k := ⟨_, rfl⟩
                have pyl : PY < n := by rw [hPY]; exact placeN_lt a0 y n k n1
                have CY : Hid (∀ w1, Calls Try.prog 24 #[.int .u64 a0, .string y, .int .i64 (k : Int), .int .i64 (n : Int)] w1 fun e w' => e = .returned (.int .i64 (PY : Int)) ∧ Below w1.heap.size w1 w') := fun w1 => by
                  rw [hPY]; exact rlcell_any a0 y k n w1 uS (by omega) (by omega) n1 (by omega)
                have HP : Hid (PY = placeN a0 y n k) := hPY
                have BI : Hid (Below ww4.heap.size ww4 (wr.alloc (.cells #[.string y, .int .i64 z] 51))) := bel_trans hb (bel_alloc _ _)
                have KI : Hid (Blk (wr.alloc (.cells #[.string y, .int .i64 z] 51)) wr.heap.size 51 #[.string y, .int .i64 z]) := Blk.new _ _ _
                clear hg hO hb hPY
                go_upto_region 22 with fail
                generalize wr.alloc (.cells #[.string y, .int .i64 z] 51) = u1 at BI KI ⊢
                have i0 : u1.cell? ⟨wr.heap.size, 0, none⟩ = some (.string y) := KI.out.cell 0
                clear c1 c2
                go_wp2_with fail
                refine (CY.out _).mono ?_
                rintro e u2 ⟨rfl, b2⟩
                go_wp2_with fail
                refine (CS.out _).mono ?_
                rintro e u3 ⟨rfl, b3⟩
                have BJ : Hid (Below ww4.heap.size ww4 u3) := bel_trans (bel_trans BI.out b2) b3
                have i1 : u3.cell? ⟨wr.heap.size, 1, none⟩ = some (.int .i64 z) := ((KI.out.since b2).since b3).cell 1
                clear b2 b3 i0 CY
                by_cases hE : PY = PS
                · have e1 : ((PY : Int) == (PS : Int)) = true := by simp [hE]
                  have HE : Hid (PY = PS) := hE
                  clear hE
                  go_wp2_with fail
                  go_roundg (m - (c + 1))
                  case measure => have := HJ.out.1; omega
                  case rel => exact ⟨c + 1, O + z, ⟨rfl, by omega, by show O + z = sumZ a0 n K q k PS c + (if PS = placeN a0 (K c) n k then q c else 0); rw [← HY.out.1, ← HY.out.2, ← HP.out, if_pos HE.out.symm, HJ.out.2.1], BJ.out⟩, by go_num, by go_num⟩
                · have e1 : ((PY : Int) == (PS : Int)) = false := by simp; omega
                  have HE : Hid (¬ PY = PS) := hE
                  clear hE
                  go_wp2_with fail
                  go_roundg (m - (c + 1))
                  case measure => have := HJ.out.1; omega
                  case rel => exact ⟨c + 1, O, ⟨rfl, by omega, by show O = sumZ a0 n K q k PS c + (if PS = placeN a0 (K c) n k then q c else 0); rw [← HY.out.1, ← HY.out.2, ← HP.out, if_neg (fun h => HE.out h.symm), Int.add_zero, HJ.out.2.1], BJ.out⟩, by go_num, by go_num⟩
              · obtain rfl : m = c := by omega
                have b1 : ¬ (m : Int) < (m : Int) := by omega
                have ga := GA.out k hkl
                rw [← HS.out, ← hO] at ga
                have g2 : ¬ G > O := by omega
                clear hg hO hb ga
                go_wp2_with fail
                go_roundg (R - (k + 1))
                case measure => have := HQ.out.1; omega
                case rel => exact ⟨k + 1, ⟨rfl, by omega, HJ.out.2.2⟩, by go_num⟩
          · have bk : ¬ (k : Int) < (R : Int) := by omega
            go_wp2_with fail
            refine (awake_any _).mono ?_
            rintro e ww9 ⟨rfl, b9⟩
            go_wp2_with fail
            go_ret
            exact ⟨rfl, bel_trans (bel_trans BEL5.out HQ.out.2) b9⟩
      | false =>
        have ge : G = a3 := by
          have := HB.out
          by_cases h : G < a3
          · rw [decide_eq_true h] at this; cases this
          · omega
        have g3 : (G != a3) = false := by simp [ge]
        have HGE : Hid (G = a3) := ge
        clear HO HB ge
        go_wp2_with fail
        go_loopg [20] R (fun gk i wz => ∃ k : Nat, (gk = R - k ∧ k ≤ R ∧ Below ww4.heap.size ww4 wz) ∧ i = .int .i64 (k : Int))
        case atStart => exact ⟨0, ⟨rfl, by omega, HW.out⟩, rfl⟩
        case round =>
          clear HW
          obtain ⟨k, ⟨hg, hk, hb⟩, rfl⟩ := hrel
          have HQ : Hid (gk = R - k ∧ Below ww4.heap.size ww4 wr) := ⟨hg, hb⟩
          clear hg hb
          by_cases hkl : k < R
          · have bk : (k : Int) < (R : Int) := by omega
            obtain ⟨PS, hPS⟩ : ∃ PS, PS = placeN a0 s n k := ⟨_, rfl⟩
            have psl : PS < n := by rw [hPS]; exact placeN_lt a0 s n k n1
            have CS : Hid (∀ w1, Calls Try.prog 24 #[.int .u64 a0, .string s, .int .i64 (k : Int), .int .i64 (n : Int)] w1 fun e w' => e = .returned (.int .i64 (PS : Int)) ∧ Below w1.heap.size w1 w') := fun w1 => by
              rw [hPS]; exact rlcell_any a0 s k n w1 uS (by omega) (by omega) n1 (by omega)
            have HS : Hid (PS = placeN a0 s n k) := hPS
            clear hPS
            go_wp2_with fail
            go_loopg [21, 96] m (fun gj o i wi => ∃ (c : Nat) (O : Int), (gj = m - c ∧ c ≤ m ∧ O = sumZ a0 n K q k PS c ∧ Below ww4.heap.size ww4 wi) ∧ o = .int .i64 O ∧ i = .int .i64 (c : Int))
            case atStart => exact ⟨0, 0, ⟨rfl, by omega, rfl, HQ.out.2⟩, rfl, rfl⟩
            case round =>
              obtain ⟨c, O, ⟨hg, hc, hO, hb⟩, rfl, rfl⟩ := hrel
              have HJ : Hid (gk = m - c ∧ O = sumZ a0 n K q k PS c ∧ Below ww4.heap.size ww4 wr) := ⟨hg, hO, hb⟩
              have o0 : 0 ≤ O := by rw [hO]; exact sumZ_nn fun t ht => (HK.out t (by omega)).2.1
              have o1 : O ≤ 42949672960 := by
                have := sum_le_nat (S := a0) (n := n) (l := K) (q := q) (i := k) (j := PS) (m := 1073741824) (by omega) (k := c) fun t ht => (HK.out t (by omega)).2
                rw [hO]; omega
              by_cases hlt : c < m
              · obtain rfl := L3.out (by omega)
                obtain ⟨d1, d2⟩ := L4.out c hlt
                have c1 : wr.cell? ⟨bl, ol + c * 2, none⟩ = some (.string (K c)) := keep_of_below (bel_trans BEL5.out hb) _ _ d1
                have c2 : wr.cell? ⟨bl, ol + c * 2 + 1, none⟩ = some (.int .i64 (q c)) := keep_of_below (bel_trans BEL5.out hb) _ _ d2
                have b1 : (c : Int) < (m : Int) := by omega
                have b0 : (0 : Int) ≤ (c : Int) := by omega
                have hkk := HK.out c hlt
                obtain ⟨y, hy⟩ : ∃ y, y = K c := ⟨_, rfl⟩
                obtain ⟨z, hz⟩ : ∃ z, z = q c := ⟨_, rfl⟩
                rw [← hy] at c1 hkk
                rw [← hz] at c2 hkk
                obtain ⟨ys, z0, z1⟩ := hkk
                have HY : Hid (y = K c ∧ z = q c) := ⟨hy, hz⟩
                clear d1 d2 hy hz
                obtain ⟨PY, hPY⟩ : ∃ PY, PY = placeN a0 y n k := ⟨_, rfl⟩
                have pyl : PY < n := by rw [hPY]; exact placeN_lt a0 y n k n1
                have CY : Hid (∀ w1, Calls Try.prog 24 #[.int .u64 a0, .string y, .int .i64 (k : Int), .int .i64 (n : Int)] w1 fun e w' => e = .returned (.int .i64 (PY : Int)) ∧ Below w1.heap.size w1 w') := fun w1 => by
                  rw [hPY]; exact rlcell_any a0 y k n w1 uS (by omega) (by omega) n1 (by omega)
                have HP : Hid (PY = placeN a0 y n k) := hPY
                have BI : Hid (Below ww4.heap.size ww4 (wr.alloc (.cells #[.string y, .int .i64 z] 51))) := bel_trans hb (bel_alloc _ _)
                have KI : Hid (Blk (wr.alloc (.cells #[.string y, .int .i64 z] 51)) wr.heap.size 51 #[.string y, .int .i64 z]) := Blk.new _ _ _
                clear hg hO hb hPY
                go_upto_region 22 with fail
                generalize wr.alloc (.cells #[.string y, .int .i64 z] 51) = u1 at BI KI ⊢
                have i0 : u1.cell? ⟨wr.heap.size, 0, none⟩ = some (.string y) := KI.out.cell 0
                clear c1 c2
                go_wp2_with fail
                refine (CY.out _).mono ?_
                rintro e u2 ⟨rfl, b2⟩
                go_wp2_with fail
                refine (CS.out _).mono ?_
                rintro e u3 ⟨rfl, b3⟩
                have BJ : Hid (Below ww4.heap.size ww4 u3) := bel_trans (bel_trans BI.out b2) b3
                have i1 : u3.cell? ⟨wr.heap.size, 1, none⟩ = some (.int .i64 z) := ((KI.out.since b2).since b3).cell 1
                clear b2 b3 i0 CY
                by_cases hE : PY = PS
                · have e1 : ((PY : Int) == (PS : Int)) = true := by simp [hE]
                  have HE : Hid (PY = PS) := hE
                  clear hE
                  go_wp2_with fail
                  go_roundg (m - (c + 1))
                  case measure => have := HJ.out.1; omega
                  case rel => exact ⟨c + 1, O + z, ⟨rfl, by omega, by show O + z = sumZ a0 n K q k PS c + (if PS = placeN a0 (K c) n k then q c else 0); rw [← HY.out.1, ← HY.out.2, ← HP.out, if_pos HE.out.symm, HJ.out.2.1], BJ.out⟩, by go_num, by go_num⟩
                · have e1 : ((PY : Int) == (PS : Int)) = false := by simp; omega
                  have HE : Hid (¬ PY = PS) := hE
                  clear hE
                  go_wp2_with fail
                  go_roundg (m - (c + 1))
                  case measure => have := HJ.out.1; omega
                  case rel => exact ⟨c + 1, O, ⟨rfl, by omega, by show O = sumZ a0 n K q k PS c + (if PS = placeN a0 (K c) n k then q c else 0); rw [← HY.out.1, ← HY.out.2, ← HP.out, if_neg (fun h => HE.out h.symm), Int.add_zero, HJ.out.2.1], BJ.out⟩, by go_num, by go_num⟩
              · obtain rfl : m = c := by omega
                have b1 : ¬ (m : Int) < (m : Int) := by omega
                have ga := GA.out k hkl
                rw [← HS.out, ← hO] at ga
                have g2 : ¬ G > O := by omega
                clear hg hO hb ga
                go_wp2_with fail
                go_roundg (R - (k + 1))
                case measure => have := HQ.out.1; omega
                case rel => exact ⟨k + 1, ⟨rfl, by omega, HJ.out.2.2⟩, by go_num⟩
          · have bk : ¬ (k : Int) < (R : Int) := by omega
            go_wp2_with fail
            refine (awake_any _).mono ?_
            rintro e ww9 ⟨rfl, b9⟩
            go_wp2_with fail
            go_ret
            exact ⟨rfl, bel_trans (bel_trans BEL5.out HQ.out.2) b9⟩

/-! ### The row -/
theorem laidOut : laidOutB Try.prog = true := by kernel_rfl
set_option maxRecDepth 100000 in
theorem lifted (os : Os) (started : os.Started) (H : Type) (enc : TypeId × Value → H) :
    ReturnsInHanded {} Try.checked os 6 .any (Rows.leastBoundsSpec.pre6 enc Try.prog Try.f6 Rows.leastBoundsRow.domain false) (Rows.leastBoundsSpec.post enc Try.prog Try.f6 false true false false) := by
  refine returnsInHanded_of_change (C := Try.checked) own started (by kernel_rfl) Try.func6
    (ChangeSpec.witness6 (enc := enc) (C := Try.checked) false ⟨#[], #[.int .u64 0, .int .i64 0, .int .i64 0, .int .i64 0, .slice none 0 0, .string ⟨#[]⟩], []⟩ 8 (by kernel_rfl) (by kernel_rfl) (by kernel_rfl) (by kernel_rfl)) ?_
  intro W base args ds gs before hval0 hW hcnd _
  have hval : ∀ (j : Nat) t v, Try.f6.params[j]? = some t → args[j]? = some v → Value.okWide Try.prog W .any base t v := hval0
  have hW' := hW
  obtain ⟨p, q, hA0, hV, rfl, hfz, hnd⟩ := hW
  have hA : DataW.TrodAll enc Try.prog W 0 (fun _ => true) true Try.f6.params.toList args.toList ds p := hA0
  rw [Try.params6] at hA hval
  obtain ⟨v0, vs0, d0, ds0, p0, q0, hargs, rfl, rfl, h0, r0⟩ := trodAll_cons hA
  obtain ⟨v1, vs1, d1, ds1, p1, q1, rfl, rfl, rfl, h1, r1⟩ := trodAll_cons r0
  obtain ⟨v2, vs2, d2, ds2, p2, q2, rfl, rfl, rfl, h2, r2⟩ := trodAll_cons r1
  obtain ⟨v3, vs3, d3, ds3, p3, q3, rfl, rfl, rfl, h3, r3⟩ := trodAll_cons r2
  obtain ⟨v4, vs4, d4, ds4, p4, q4, rfl, rfl, rfl, h4, r4⟩ := trodAll_cons r3
  obtain ⟨v5, vs5, d5, ds5, p5, q5, rfl, rfl, rfl, h5, r5⟩ := trodAll_cons r4
  obtain ⟨rfl, rfl, rfl⟩ := trodAll_nil r5
  obtain rfl : args = #[v0, v1, v2, v3, v4, v5] := by cases args; simp_all
  obtain ⟨rfl, rfl⟩ := trodVars_none hV
  obtain ⟨a0, rfl, rfl, rfl, w0⟩ := open_int Try.underlying22 (hval 0 22 v0 rfl rfl) h0
  obtain ⟨a1, rfl, rfl, rfl, w1⟩ := open_int Try.underlying3 (hval 1 3 v1 rfl rfl) h1
  obtain ⟨a2, rfl, rfl, rfl, w2⟩ := open_int Try.underlying3 (hval 2 3 v2 rfl rfl) h2
  obtain ⟨a3, rfl, rfl, rfl, w3⟩ := open_int Try.underlying3 (hval 3 3 v3 rfl rfl) h3
  have k4 := h4
  have lt4 : ∀ x ∈ p4, x.block < W.heap.size := by obtain ⟨m, hm⟩ := k4; exact DataW.trod_lt m _ _ _ hm
  obtain ⟨F4, w4⟩ := open_items (hval 4 47 v4 rfl rfl) h4
  obtain ⟨a5, rfl, rfl, rfl, w5⟩ := open_string Try.underlying9 (hval 5 9 v5 rfl rfl) h5
  clear hA0 hval0
  refine (walk a0 a1 a2 a3 v4 F4 a5 W w0 w1 w2 w3 w4 w5).mono fun e W' ⟨he, bel⟩ => ?_
  subst he
  exact ⟨_, rfl, _, _, _, [], _, [], hW', trodAll_mk1 (shut_bool Try.underlying4 _), (trodAll_cons_mk (shut_int Try.underlying22 w0) (trodAll_cons_mk (shut_int Try.underlying3 w1) (trodAll_cons_mk (shut_int Try.underlying3 w2) (trodAll_cons_mk (shut_int Try.underlying3 w3) (trodAll_cons_mk (Below.trod laidOut (by kernel_rfl) (of_decide_eq_true (by kernel_rfl)) k4 bel lt4) (trodAll_cons_mk (shut_string Try.underlying9 w5) trodAll_mk0)))))), rfl, bel.frame _, fun h => by cases h⟩

theorem over : Rows.leastBoundsRow.holds Try.pinned (OpenSpec.ofChange Rows.leastBoundsSpec) :=
  OpenClaim.holds_of_wide 6 Try.f6 rfl rfl rfl rfl rfl rfl rfl ⟨rfl, rfl, rfl, rfl, rfl⟩ rfl rfl rfl rfl rfl (by kernel_rfl) Try.func6 (by kernel_rfl)
    (of_decide_eq_true (by kernel_rfl)) (by unfold Func.isWrapper; first | (rw [if_pos (by decide +kernel)]; kernel_rfl) | (rw [if_neg (by decide +kernel)]; exact ⟨rfl, rfl⟩))
    (fun os started H enc _ => lifted os started H enc)

theorem proved : Rows.LeastBoundsSaid := over
end Go.Proofs.Ytmlokipmcgnllaa.leastBounds
namespace Go.Proofs.Ytmlokipmcgnllaa
theorem leastBounds_holds : Rows.LeastBoundsSaid := leastBounds.proved
#print axioms leastBounds_holds
end Go.Proofs.Ytmlokipmcgnllaa
