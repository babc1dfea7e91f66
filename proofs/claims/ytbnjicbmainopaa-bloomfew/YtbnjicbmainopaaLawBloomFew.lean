
/-
  BloomFew: each key sets at most as many bits as there are hashes; none falls away; one that is there sets none. No condition.
-/
import Derived.Test.YtbnjicbmainopaaRows
import Derived.Test.YtbnjicbmainopaaBlmAwake
import Derived.Test.YtbnjicbmainopaaBlmRow
import Derived.WalkKit
import Derived.ProofKit
import Derived.OpenShut
import Derived.ShutString
import Derived.ChangeOld
import Derived.ChangeMaps5
import Derived.Below
import Derived.Carry
import Derived.Laws.StructEq
import Derived.BigQuiet
import Derived.Deep.Cut
namespace Go.Proofs.Ytbnjicbmainopaa.bloomFew
open Fm Bl L2 Go.Deep
open Go.ChangeShapes Go.WideShapes Go.ChangeAt Go.RowKit Go.ChangeMaps
set_option linter.unusedVariables false

theorem own : ownKnob Try.prog.godebug = none := by kernel_rfl

/-- What the loop of BloomFew keeps. -/
structure FewIn (w wr : World) (g : Nat) (S H : Int) (A : Option Addr) (cap n : Nat) (B : Nat → Bool) : Prop where
  since : Below w.heap.size w wr
  box : Blk wr g 25 #[.int .u64 S, .int .i64 H, .slice A n cap]
  ge : w.heap.size ≤ g
  bits : BoolsAt wr (.slice A n cap) n B
theorem FewIn.below {w wr w' : World} {g : Nat} {S H : Int} {A : Option Addr} {cap n : Nat} {B : Nat → Bool} (h : FewIn w wr g S H A cap n B) (b : Below wr.heap.size wr w') : FewIn w w' g S H A cap n B := ⟨bel_trans h.since b, h.box.since b, h.ge, h.bits.keep (keep_of_below b)⟩
theorem FewIn.put {w wr w1 : World} {g : Nat} {S H : Int} {A A' : Option Addr} {cap cap' n : Nat} {B C : Nat → Bool} (h : FewIn w wr g S H A cap n B) (b : Below wr.heap.size wr w1) (k : BoolsAt w1 (.slice A' n cap') n C) : FewIn w (put3 w1 g (.int .u64 S) (.int .i64 H) (.slice A' n cap')) g S H A' cap' n C :=
  ⟨put3_below (bel_trans h.since b) h.ge _ _ _, put3_blk (h.box.since b) _ _ _, h.ge, bools_put3 (h.box.since b) k _ _ _⟩

set_option maxRecDepth 8000 in
set_option maxHeartbeats 3200000 in
theorem walk (a0 a1 a2 : Int) (v3 : Value) (F3 : Lst) (w : World) (w0 : (Lit.int .u64 a0).wf = true) (w1 : (Lit.int .i64 a1).wf = true) (w2 : (Lit.int .i64 a2).wf = true) (h3 : StrsIn w v3 F3) :
    Calls Try.prog 7 #[.int .u64 a0, .int .i64 a1, .int .i64 a2, v3] w fun e w' => e = .returned (.bool true) ∧ Below w.heap.size w w' := by
  have uS : U a0 := bounds_u64 w0
  obtain ⟨m, L⟩ := F3
  obtain ⟨hL, hm, hz⟩ := h3
  simp only at hL hm hz
  by_cases hf : fitsB a1 a2 = true
  rotate_left
  · have BEL0 : Hid (Below w.heap.size w w) := Below.refl _ _
    have hff : fitsB a1 a2 = false := by simpa using hf
    clear hf
    go_enter Try.func7, Try.ntmps7
    go_wp2_with fail
    refine (new_bad a0 a1 a2 _ hff).mono ?_
    rintro e ww1 ⟨rfl, b1⟩
    have BEL1 : Hid (Below w.heap.size w ww1) := bel_trans BEL0.out b1
    clear BEL0
    clear b1
    have BEL2 : Hid (Below w.heap.size w (ww1.alloc (.cells #[.int .u64 0, .int .i64 0, .slice none 0 0] 25))) := bel_trans BEL1.out (bel_alloc _ _)
    clear BEL1
    have KB_f_2 : Hid (Blk (ww1.alloc (.cells #[.int .u64 0, .int .i64 0, .slice none 0 0] 25)) (ww1.heap.size) 25 #[.int .u64 0, .int .i64 0, .slice none 0 0]) := Blk.new _ _ _
    go_wp2_with fail
    refine (awake_any _).mono ?_
    rintro e ww99 ⟨rfl, b9⟩
    have BEL3 : Hid (Below w.heap.size w ww99) := bel_trans BEL2.out b9
    have KB_f_3 : Hid (Blk ww99 (ww1.heap.size) 25 #[.int .u64 0, .int .i64 0, .slice none 0 0]) := KB_f_2.out.since b9
    clear BEL2 KB_f_2
    clear b9
    go_wp2_with fail
    go_ret
    exact ⟨rfl, BEL3.out⟩
  have BEL0 : Hid (Below w.heap.size w w) := Below.refl _ _
  have hR := (fitsB_iff _ _).1 hf
  obtain ⟨n, rfl⟩ : ∃ n : Nat, a1 = n := ⟨a1.toNat, by omega⟩
  obtain ⟨N, rfl⟩ : ∃ N : Nat, a2 = N := ⟨a2.toNat, by omega⟩
  have n1 : 1 ≤ n := by omega
  have n2 : n ≤ 256 := by omega
  have N1 : 1 ≤ N := by omega
  have N2 : N ≤ 7 := by omega
  have HF : Hid (fitsB n (N : Int) = true) := hf
  have KE : Hid (kN n (N : Int) = N) := by show kN n (N : Int) = N; rw [kN_right hf]; omega
  clear hR hf
  have EX_l_0 : Hid (StrsAt w v3 m L) := hL
  go_enter Try.func7, Try.ntmps7
  go_wp2_with fail
  refine (new_ok a0 n N _ HF.out).mono ?_
  rintro e ww1 ⟨x1, rfl, f1, b1⟩
  have BEL1 : Hid (Below w.heap.size w ww1) := bel_trans BEL0.out b1
  have EX_l_1 : Hid (StrsAt ww1 v3 m L) := EX_l_0.out.keep (keep_of_below b1)
  clear BEL0 EX_l_0
  clear b1
  have BELG : Hid (w.heap.size ≤ ww1.heap.size) := BEL1.out.size
  have FA_f_1 : Hid (FilterAt ww1 (x1) a0 (N : Int) n (fun _ => false)) := f1
  obtain ⟨v1, rfl, A1, cap1, bb1, oo1, rfl, hx1, hx2, hx3⟩ := f1
  clear hx1 hx2 hx3
  have BEL2 : Hid (Below w.heap.size w (ww1.alloc (.cells #[.int .u64 a0, .int .i64 (N : Int), .slice A1 n cap1] 25))) := bel_trans BEL1.out (bel_alloc _ _)
  have FA_f_2 : Hid (FilterAt (ww1.alloc (.cells #[.int .u64 a0, .int .i64 (N : Int), .slice A1 n cap1] 25)) (.agg #[.int .u64 a0, .int .i64 (N : Int), .slice A1 n cap1]) a0 (N : Int) n (fun _ => false)) := FA_f_1.out.keep (keep_of_below (bel_alloc _ _))
  have EX_l_2 : Hid (StrsAt (ww1.alloc (.cells #[.int .u64 a0, .int .i64 (N : Int), .slice A1 n cap1] 25)) v3 m L) := EX_l_1.out.keep (keep_of_below (bel_alloc _ _))
  clear BEL1 FA_f_1 EX_l_1
  have KB_f_2 : Hid (Blk (ww1.alloc (.cells #[.int .u64 a0, .int .i64 (N : Int), .slice A1 n cap1] 25)) (ww1.heap.size) 25 #[.int .u64 a0, .int .i64 (N : Int), .slice A1 n cap1]) := Blk.new _ _ _
  go_wp2_with fail
  refine (short_any _ _ m L EX_l_2.out hm hz).mono ?_
  rintro e ww2 ⟨bs, rfl, hbs, b2⟩
  have BEL3 : Hid (Below w.heap.size w ww2) := bel_trans BEL2.out b2
  have FA_f_3 : Hid (FilterAt ww2 (.agg #[.int .u64 a0, .int .i64 (N : Int), .slice A1 n cap1]) a0 (N : Int) n (fun _ => false)) := FA_f_2.out.keep (keep_of_below b2)
  have KB_f_3 : Hid (Blk ww2 (ww1.heap.size) 25 #[.int .u64 a0, .int .i64 (N : Int), .slice A1 n cap1]) := KB_f_2.out.since b2
  have EX_l_3 : Hid (StrsAt ww2 v3 m L) := EX_l_2.out.keep (keep_of_below b2)
  clear BEL2 FA_f_2 KB_f_2 EX_l_2
  clear b2
  cases bs
  · clear hbs
    go_wp2_with fail
    refine (awake_any _).mono ?_
    rintro e ww99 ⟨rfl, b9⟩
    have BEL4 : Hid (Below w.heap.size w ww99) := bel_trans BEL3.out b9
    have FA_f_4 : Hid (FilterAt ww99 (.agg #[.int .u64 a0, .int .i64 (N : Int), .slice A1 n cap1]) a0 (N : Int) n (fun _ => false)) := FA_f_3.out.keep (keep_of_below b9)
    have KB_f_4 : Hid (Blk ww99 (ww1.heap.size) 25 #[.int .u64 a0, .int .i64 (N : Int), .slice A1 n cap1]) := KB_f_3.out.since b9
    have EX_l_4 : Hid (StrsAt ww99 v3 m L) := EX_l_3.out.keep (keep_of_below b9)
    clear BEL3 FA_f_3 KB_f_3 EX_l_3
    clear b9
    go_wp2_with fail
    go_ret
    exact ⟨rfl, BEL4.out⟩
  have hsh := hbs.1 rfl
  obtain ⟨m30, hz1⟩ := hsh
  have HZ : Hid (∀ i, i < m → (L i).size ≤ 100) := hz1
  clear hbs hz hz1
  have FI : Hid (FewIn w ww2 ww1.heap.size a0 N A1 cap1 n (addsB a0 N n (fun _ => false) L 0)) := by
    obtain ⟨v1, e1, e2⟩ := FA_f_3.out
    cases e1
    exact ⟨BEL3.out, KB_f_3.out, BELG.out, e2⟩
  obtain ⟨Al, capl, bl, ol, rfl, hx1, l3, l4⟩ := id hL
  have L3 : Hid (0 < m → Al = some ⟨bl, ol, none⟩) := l3
  have L4 : Hid (∀ i, i < m → w.cell? ⟨bl, ol + i, none⟩ = some (.string (L i))) := l4
  clear hx1 l3 l4 hL
  clear FA_f_3
  clear KB_f_3
  clear EX_l_3
  clear BEL3
  go_wp2_with fail
  generalize ww1.heap.size = g at FI BELG ⊢
  go_loopg [33] m (fun gk i wr => ∃ (k : Nat) (A : Option Addr) (cap : Nat), (gk = m - k ∧ k ≤ m ∧ FewIn w wr g a0 N A cap n (addsB a0 N n (fun _ => false) L k)) ∧ i = .int .i64 (k : Int))
  case atStart => exact ⟨0, A1, cap1, ⟨rfl, by omega, FI.out⟩, rfl⟩
  case round =>
    clear FI
    obtain ⟨k, A, cap, ⟨hg, hk, hI⟩, rfl⟩ := hrel
    have HK : Hid (gk = m - k ∧ FewIn w wr g a0 N A cap n (addsB a0 N n (fun _ => false) L k)) := ⟨hg, hI⟩
    by_cases hlt : k < m
    · obtain rfl := L3.out (by omega)
      have c1 := keep_of_below hI.since _ _ (L4.out k hlt)
      have b1 : (k : Int) < (m : Int) := by omega
      have hsz := HZ.out k hlt
      obtain ⟨b, hb⟩ : ∃ b : Bool, b = true ↔ hasB n N (addsB a0 N n (fun _ => false) L k) (placeN a0 (L k) n) := by
        by_cases hh : hasB n N (addsB a0 N n (fun _ => false) L k) (placeN a0 (L k) n)
        · exact ⟨true, fun _ => hh, fun _ => rfl⟩
        · exact ⟨false, fun h => (by cases h), fun h => absurd h hh⟩
      obtain ⟨TA, hTA⟩ : ∃ T, T = setB n N (addsB a0 N n (fun _ => false) L k) := ⟨_, rfl⟩
      obtain ⟨TB, hTB⟩ : ∃ T, T = setB n N (addsB a0 N n (fun _ => false) L (k + 1)) := ⟨_, rfl⟩
      have eA : TA = cntB (addsB a0 N n (fun _ => false) L k) n := by rw [hTA]; exact if_pos HF.out
      have eB : TB = cntB (addB a0 N n (addsB a0 N n (fun _ => false) L k) (L k)) n := by rw [hTB]; exact if_pos HF.out
      have f1 := few_le a0 N n (addsB a0 N n (fun _ => false) L k) (L k)
      have f2 := few_has a0 N n (addsB a0 N n (fun _ => false) L k) (L k)
      rw [← eA, ← eB] at f1 f2
      rw [KE.out] at f1
      have f3 : TA ≤ 256 := by have := cntB_le (addsB a0 N n (fun _ => false) L k) n; omega
      have f4 : b = true ↔ TB = TA := hb.trans ⟨fun h => f2.2 h.2, fun h => ⟨HF.out, f2.1 h⟩⟩
      obtain ⟨D, hD⟩ : ∃ D, TB = TA + D := ⟨TB - TA, by omega⟩
      have d0 : (TB : Int) - (TA : Int) = (D : Int) := by omega
      have d1 : D ≤ 7 := by omega
      have d2 : ¬ (D : Int) < 0 := by omega
      have d3 : ¬ (N : Int) < (D : Int) := by omega
      have d5 : TB ≤ 300 := by omega
      have HC : Hid (∀ w1, Below wr.heap.size wr w1 → Calls Try.prog 19 #[.agg #[.int .u64 a0, .int .i64 (N : Int), .slice A n cap], .string (L k)] w1 fun e w' => e = .returned (.bool b) ∧ Below wr.heap.size wr w') := fun w1 b1 =>
        (has_any w1 _ a0 N n _ (L k) ⟨_, rfl, hI.bits.keep (keep_of_below b1)⟩ uS (by omega)).mono fun e w' h => ⟨(told h b hb).1, bel_trans b1 (told h b hb).2⟩
      have SC : Hid (∀ w1, Below wr.heap.size wr w1 → Calls Try.prog 15 #[.agg #[.int .u64 a0, .int .i64 (N : Int), .slice A n cap]] w1 fun e w' => e = .returned (.int .i64 (TA : Int)) ∧ Below wr.heap.size wr w') := fun w1 b1 =>
        (set_any w1 _ a0 N n _ ⟨_, rfl, hI.bits.keep (keep_of_below b1)⟩).mono fun e w' h => ⟨by rw [h.1, hTA], bel_trans b1 h.2⟩
      have AC : Hid (∀ w1, Below wr.heap.size wr w1 → Calls Try.prog 16 #[.agg #[.int .u64 a0, .int .i64 (N : Int), .slice A n cap], .string (L k)] w1 fun e w' => ∃ A2 cap2, e = .returned (.agg #[.int .u64 a0, .int .i64 (N : Int), .slice A2 n cap2]) ∧ BoolsAt w' (.slice A2 n cap2) n (addsB a0 N n (fun _ => false) L (k + 1)) ∧ Below wr.heap.size wr w') := fun w1 b1 =>
        (add_any w1 _ a0 N n _ (L k) ⟨_, rfl, hI.bits.keep (keep_of_below b1)⟩ uS (by omega) (by omega)).mono fun e w' h => by
          obtain ⟨x, rfl, ⟨v, rfl, hv⟩, hb⟩ := h
          obtain ⟨A2, cap2, bb, oo, rfl, _⟩ := id hv
          exact ⟨A2, cap2, rfl, hv, bel_trans b1 hb⟩
      have TC : Hid (∀ w1 A2 cap2, BoolsAt w1 (.slice A2 n cap2) n (addsB a0 N n (fun _ => false) L (k + 1)) → Calls Try.prog 15 #[.agg #[.int .u64 a0, .int .i64 (N : Int), .slice A2 n cap2]] w1 fun e w' => e = .returned (.int .i64 (TB : Int)) ∧ Below w1.heap.size w1 w') := fun w1 A2 cap2 h =>
        (set_any w1 _ a0 N n _ ⟨_, rfl, h⟩).mono fun e w' h => ⟨by rw [h.1, hTB], h.2⟩
      have DR : Hid (Below wr.heap.size wr wr.drew) := (Below.refl _ _).drew
      have KX : Hid (∀ w1, Below wr.heap.size wr w1 → Blk w1 g 25 #[.int .u64 a0, .int .i64 (N : Int), .slice A n cap]) := fun w1 b1 => hI.box.since b1
      have x0 : wr.cell? ⟨g, 0, none⟩ = some (.int .u64 a0) := hI.box.cell 0
      have x1 : wr.cell? ⟨g, 1, none⟩ = some (.int .i64 (N : Int)) := hI.box.cell 1
      have x2 : wr.cell? ⟨g, 2, none⟩ = some (.slice A n cap) := hI.box.cell 2
      have F4 : Hid (b = true ↔ D = 0) := f4.trans ⟨fun h => by omega, fun h => by omega⟩
      obtain ⟨NB, hNB⟩ : ∃ NB, NB = addsB a0 N n (fun _ => false) L (k + 1) := ⟨_, rfl⟩
      rw [← hNB] at AC
      rw [← hNB] at TC
      have NBE : Hid (NB = addsB a0 N n (fun _ => false) L (k + 1)) := hNB
      have KS : Hid (∀ q : World, Below wr.heap.size wr q → (q.cell? ⟨g, 0, none⟩ = some (.int .u64 a0) ∧ q.cell? ⟨g, 1, none⟩ = some (.int .i64 (N : Int)) ∧ q.cell? ⟨g, 2, none⟩ = some (.slice A n cap))) := fun q bq => ⟨(KX.out q bq).cell 0, (KX.out q bq).cell 1, (KX.out q bq).cell 2⟩
      clear hb hTA hTB eA eB f1 f2 f4 hNB hI hg hD
      generalize L k = s at c1 HC SC AC hsz
      go_wp2_with fail
      go_region_held3 (fun w' => w'.cell? ⟨g, 0, none⟩ = some (.int .u64 a0) ∧ w'.cell? ⟨g, 1, none⟩ = some (.int .i64 (N : Int)) ∧ w'.cell? ⟨g, 2, none⟩ = some (.slice A n cap)) (first | go_keep | exact KS.out _ BZ.out | exact KS.out _ BH.out | exact KS.out _ BS.out) (first
        | (have fl := BS; clear fl; go_simp; go_at_call 19; refine (HC.out _ BS.out).mono ?_; rintro e q2 ⟨rfl, cc⟩; have BZ : Hid (Below wr.heap.size wr q2) := cc; clear cc)
        | (have fl := BH; clear fl; go_simp; go_at_call 15; refine (SC.out _ BH.out).mono ?_; rintro e q2 ⟨rfl, cc⟩; have BZ : Hid (Below wr.heap.size wr q2) := cc; clear cc)
        | (go_simp; go_at_call 19; refine (HC.out _ DR.out).mono ?_; rintro e q1 ⟨rfl, cc⟩; have BH : Hid (Below wr.heap.size wr q1) := cc; clear cc)
        | (go_simp; go_at_call 15; refine (SC.out _ DR.out).mono ?_; rintro e q1 ⟨rfl, cc⟩; have BS : Hid (Below wr.heap.size wr q1) := cc; clear cc))
      all_goals have y0 : q2.cell? ⟨g, 0, none⟩ = some (.int .u64 a0) := (KX.out _ BZ.out).cell 0
      all_goals have y1 : q2.cell? ⟨g, 1, none⟩ = some (.int .i64 (N : Int)) := (KX.out _ BZ.out).cell 1
      all_goals have y2 : q2.cell? ⟨g, 2, none⟩ = some (.slice A n cap) := (KX.out _ BZ.out).cell 2
      all_goals clear x0 x1 x2
      all_goals go_wp2_with fail
      all_goals refine (AC.out _ BZ.out).mono ?_
      all_goals rintro e q3 ⟨A2, cap2, rfl, h2, b3⟩
      all_goals have FN : Hid (FewIn w (put3 q3 g (.int .u64 a0) (.int .i64 N) (.slice A2 n cap2)) g a0 N A2 cap2 n NB) := HK.out.2.put b3 h2
      all_goals have KZ := KX.out _ b3
      all_goals have z0 : q3.cell? ⟨g, 0, none⟩ = some (.int .u64 a0) := KZ.cell 0
      all_goals have z1 : q3.cell? ⟨g, 1, none⟩ = some (.int .i64 (N : Int)) := KZ.cell 1
      all_goals have z2 : q3.cell? ⟨g, 2, none⟩ = some (.slice A n cap) := KZ.cell 2
      all_goals have v0 := KZ.frozen 0
      all_goals have v1 := KZ.frozen 1
      all_goals have v2 := KZ.frozen 2
      all_goals clear KZ y0 y1 y2 h2 b3 AC HC SC KX KS DR
      all_goals go_wp2_with fail
      all_goals refine (TC.out _ A2 cap2 FN.out.bits).mono ?_
      all_goals rintro e q4 ⟨rfl, b4⟩
      all_goals have FM : Hid (FewIn w q4 g a0 N A2 cap2 n NB) := FN.out.below b4
      all_goals clear b4 FN TC z0 z1 z2 v0 v1 v2
      all_goals by_cases hD : D = 0
      all_goals first
        | (have fb : b = true := F4.out.2 hD
           have e0 : ((D : Int) == 0) = true := by rw [hD]; rfl
           subst fb)
        | (have fb : b = false := by cases b <;> first | rfl | exact absurd (F4.out.1 rfl) hD
           have e0 : ((D : Int) == 0) = false := by rw [beq_eq_false_iff_ne]; omega
           subst fb)
      all_goals go_wp2_with fail
      all_goals go_roundg (m - (k + 1))
      all_goals first | (have := HK.out.1; omega) | exact ⟨k + 1, A2, cap2, ⟨rfl, by omega, by rw [← NBE.out]; exact FM.out⟩, by go_num⟩
    · have b1 : ¬ (k : Int) < (m : Int) := by omega
      clear hg hI
      go_wp2_with fail
      refine (awake_any _).mono ?_
      rintro e ww9 ⟨rfl, b9⟩
      go_wp2_with fail
      go_ret
      exact ⟨rfl, bel_trans HK.out.2.since b9⟩

/-! ### The row -/
theorem laidOut : laidOutB Try.prog = true := by kernel_rfl
set_option maxRecDepth 100000 in
theorem lifted (os : Os) (started : os.Started) (H : Type) (enc : TypeId × Value → H) :
    ReturnsInHanded {} Try.checked os 7 .any (Rows.bloomFewSpec.pre6 enc Try.prog Try.f7 Rows.bloomFewRow.domain false) (Rows.bloomFewSpec.post enc Try.prog Try.f7 false true false false) := by
  refine returnsInHanded_of_change (C := Try.checked) own started (by kernel_rfl) Try.func7
    (ChangeSpec.witness6 (enc := enc) (C := Try.checked) false ⟨#[], #[.int .u64 0, .int .i64 0, .int .i64 0, .slice none 0 0], []⟩ 8 (by kernel_rfl) (by kernel_rfl) (by kernel_rfl) (by kernel_rfl)) ?_
  intro W base args ds gs before hval0 hW hcnd _
  have hval : ∀ (j : Nat) t v, Try.f7.params[j]? = some t → args[j]? = some v → Value.okWide Try.prog W .any base t v := hval0
  have hW' := hW
  obtain ⟨p, q, hA0, hV, rfl, hfz, hnd⟩ := hW
  have hA : DataW.TrodAll enc Try.prog W 0 (fun _ => true) true Try.f7.params.toList args.toList ds p := hA0
  rw [Try.params7] at hA hval
  obtain ⟨v0, vs0, d0, ds0, p0, q0, hargs, rfl, rfl, h0, r0⟩ := trodAll_cons hA
  obtain ⟨v1, vs1, d1, ds1, p1, q1, rfl, rfl, rfl, h1, r1⟩ := trodAll_cons r0
  obtain ⟨v2, vs2, d2, ds2, p2, q2, rfl, rfl, rfl, h2, r2⟩ := trodAll_cons r1
  obtain ⟨v3, vs3, d3, ds3, p3, q3, rfl, rfl, rfl, h3, r3⟩ := trodAll_cons r2
  obtain ⟨rfl, rfl, rfl⟩ := trodAll_nil r3
  obtain rfl : args = #[v0, v1, v2, v3] := by cases args; simp_all
  obtain ⟨rfl, rfl⟩ := trodVars_none hV
  obtain ⟨a0, rfl, rfl, rfl, w0⟩ := open_int Try.underlying22 (hval 0 22 v0 rfl rfl) h0
  obtain ⟨a1, rfl, rfl, rfl, w1⟩ := open_int Try.underlying3 (hval 1 3 v1 rfl rfl) h1
  obtain ⟨a2, rfl, rfl, rfl, w2⟩ := open_int Try.underlying3 (hval 2 3 v2 rfl rfl) h2
  have k3 := h3
  have lt3 : ∀ x ∈ p3, x.block < W.heap.size := by obtain ⟨m, hm⟩ := k3; exact DataW.trod_lt m _ _ _ hm
  obtain ⟨F3, w3⟩ := open_keys (hval 3 48 v3 rfl rfl) h3
  clear hA0 hval0
  refine (walk a0 a1 a2 v3 F3 W w0 w1 w2 w3).mono fun e W' ⟨he, bel⟩ => ?_
  subst he
  exact ⟨_, rfl, _, _, _, [], _, [], hW', trodAll_mk1 (shut_bool Try.underlying4 _), (trodAll_cons_mk (shut_int Try.underlying22 w0) (trodAll_cons_mk (shut_int Try.underlying3 w1) (trodAll_cons_mk (shut_int Try.underlying3 w2) (trodAll_cons_mk (Below.trod laidOut (by kernel_rfl) (of_decide_eq_true (by kernel_rfl)) k3 bel lt3) trodAll_mk0)))), rfl, bel.frame _, fun h => by cases h⟩

theorem over : Rows.bloomFewRow.holds Try.pinned (OpenSpec.ofChange Rows.bloomFewSpec) :=
  OpenClaim.holds_of_wide 7 Try.f7 rfl rfl rfl rfl rfl rfl rfl ⟨rfl, rfl, rfl, rfl, rfl⟩ rfl rfl rfl rfl rfl (by kernel_rfl) Try.func7 (by kernel_rfl)
    (of_decide_eq_true (by kernel_rfl)) (by unfold Func.isWrapper; first | (rw [if_pos (by decide +kernel)]; kernel_rfl) | (rw [if_neg (by decide +kernel)]; exact ⟨rfl, rfl⟩))
    (fun os started H enc _ => lifted os started H enc)

theorem proved : Rows.BloomFewSaid := over
end Go.Proofs.Ytbnjicbmainopaa.bloomFew
namespace Go.Proofs.Ytbnjicbmainopaa
theorem bloomFew_holds : Rows.BloomFewSaid := bloomFew.proved
#print axioms bloomFew_holds
end Go.Proofs.Ytbnjicbmainopaa
