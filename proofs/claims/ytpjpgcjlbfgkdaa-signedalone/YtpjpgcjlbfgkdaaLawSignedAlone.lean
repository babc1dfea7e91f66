
/-
  SignedAlone: a key that shares its cell with no other key, in more than half of the rows, is told as it was added; in any case the answer lies, in some row, within what was added for other keys of its cell there. No condition.
-/
import Derived.Test.YtpjpgcjlbfgkdaaRows
import Derived.Test.YtpjpgcjlbfgkdaaSgnAwake
import Derived.Test.YtpjpgcjlbfgkdaaRegKit
import Derived.WalkKit
import Derived.ProofKit
import Derived.OpenShut
import Derived.ShutString
import Derived.ChangeOld
import Derived.ChangeMaps5
import Derived.Below
import Derived.Carry
import Derived.Laws.StructEq
import Derived.BigQuiet
import Derived.Deep.Cut
import Derived.Deep.CutRange
import Derived.Deep.RegionHeld
import Derived.MapKept
namespace Go.Proofs.Ytpjpgcjlbfgkdaa.signedAlone
open Fm Bl Sg L2 Go.Deep
open Go.ChangeShapes Go.WideShapes Go.ChangeAt Go.RowKit Go.ChangeMaps
set_option linter.unusedVariables false

theorem own : ownKnob Try.prog.godebug = none := by kernel_rfl

theorem str_eq (a b : ByteArray) : (a.toList == b.toList) = true ↔ a = b := by
  rw [beq_iff_eq]
  refine ⟨fun h => ?_, fun h => by rw [h]⟩
  rw [ByteArray.toList_eq, ByteArray.toList_eq] at h
  obtain ⟨⟨x⟩⟩ := a
  obtain ⟨⟨y⟩⟩ := b
  simp only at h
  rw [h]
theorem str_ne {a b : ByteArray} (h : ¬ a = b) : (a.toList == b.toList) = false := by
  cases e : (a.toList == b.toList) with
  | false => rfl
  | true => exact absurd ((str_eq a b).1 e) h
/-- A bool that tells something. -/
def SayN (B : Bool) (P : Prop) : Prop := B = true ↔ P
/-- In one of the first rows what is told lies within what came for others. -/
def NearG (S : Int) (n m : Nat) (K : Nat → ByteArray) (q : Nat → Int) (s : ByteArray) (O G : Int) (k : Nat) : Prop := ∃ i, i < k ∧ O - othF S n K q s i m ≤ G ∧ G ≤ O + othF S n K q s i m
theorem near_start {S : Int} {n m : Nat} {K : Nat → ByteArray} {q : Nat → Int} {s : ByteArray} {O G : Int} : SayN false (NearG S n m K q s O G 0) := ⟨(fun h => by cases h), fun ⟨i, h, _⟩ => by omega⟩
theorem near_old {S : Int} {n m k : Nat} {K : Nat → ByteArray} {q : Nat → Int} {s : ByteArray} {O G : Int} (h : SayN true (NearG S n m K q s O G k)) : SayN true (NearG S n m K q s O G (k + 1)) := by
  obtain ⟨i, h1, h2⟩ := h.1 rfl
  exact ⟨fun _ => ⟨i, by omega, h2⟩, fun _ => rfl⟩
theorem near_in {S : Int} {n m k : Nat} {K : Nat → ByteArray} {q : Nat → Int} {s : ByteArray} {O G X : Int} (hX : X = othF S n K q s k m) (h1 : O - X ≤ G) (h2 : G ≤ O + X) : SayN true (NearG S n m K q s O G (k + 1)) :=
  ⟨fun _ => ⟨k, by omega, by rw [← hX]; exact ⟨h1, h2⟩⟩, fun _ => rfl⟩
theorem near_out {S : Int} {n m k : Nat} {K : Nat → ByteArray} {q : Nat → Int} {s : ByteArray} {O G X : Int} (h : SayN false (NearG S n m K q s O G k)) (hX : X = othF S n K q s k m) (h1 : ¬ (O - X ≤ G ∧ G ≤ O + X)) : SayN false (NearG S n m K q s O G (k + 1)) := by
  refine ⟨(fun h => by cases h), fun ⟨i, h2, h3⟩ => ?_⟩
  by_cases e : i = k
  · subst e
    rw [← hX] at h3
    exact absurd h3 h1
  · exact h.2 ⟨i, by omega, h3⟩

set_option maxRecDepth 8000 in
set_option maxHeartbeats 20000000 in
theorem walk (a0 a1 a2 : Int) (v3 : Value) (F3 : Its) (s : ByteArray) (w : World) (w0 : (Lit.int .u64 a0).wf = true) (w1 : (Lit.int .i64 a1).wf = true) (w2 : (Lit.int .i64 a2).wf = true) (h3 : ItemsIn w v3 F3) (ws : s.size ≤ 9223372036854775807) :
    Calls Try.prog 7 #[.int .u64 a0, .int .i64 a1, .int .i64 a2, v3, .string s] w fun e w' => e = .returned (.bool true) ∧ Below w.heap.size w w' := by
  have uS : U a0 := bounds_u64 w0
  obtain ⟨m, K, q⟩ := F3
  obtain ⟨hL, hm, hk⟩ := h3
  simp only at hL hm hk
  obtain ⟨Al, capl, bl, ol, rfl, hx1, l3, l4⟩ := id hL
  have LA : Hid (ItAt w (.slice Al m capl) m K q) := hL
  have L3 : Hid (0 < m → Al = some ⟨bl, ol, none⟩) := l3
  have L4 : Hid (∀ i, i < m → w.cell? ⟨bl, ol + i * 2, none⟩ = some (.string (K i)) ∧ w.cell? ⟨bl, ol + i * 2 + 1, none⟩ = some (.int .i64 (q i))) := l4
  clear hL hx1 l3 l4
  by_cases hf : fitsS a1 a2 = true
  rotate_left
  · have BEL0 : Hid (Below w.heap.size w w) := Below.refl _ _
    have BOX0 : Hid (Boxes w w []) := boxes_none w w
    have hff : fitsS a1 a2 = false := by simpa using hf
    clear hf
    go_enter Try.func7, Try.ntmps7
    go_wp2_with fail
    refine (gnew_bad a0 a1 a2 _ hff).mono ?_
    rintro e ww1 ⟨rfl, b1⟩
    have BEL1 := h_bel BEL0 b1
    have BOX1 := h_box BOX0 b1
    clear BEL0 BOX0
    clear b1
    have BEL2 := a_bel BEL1 (.cells #[.int .u64 0, .slice none 0 0] 25)
    have BOX2 := a_box BOX1 BEL1 (.cells #[.int .u64 0, .slice none 0 0] 25)
    have KB_f_2 := n_blk (u := ww1) 25 #[.int .u64 0, .slice none 0 0]
    clear BEL1 BOX1
    go_wp2_with fail
    refine (gawake_any _).mono ?_
    rintro e ww99 ⟨rfl, b9⟩
    have BEL3 := h_bel BEL2 b9
    have BOX3 := h_box BOX2 b9
    have KB_f_3 := h_blk KB_f_2 b9
    clear BEL2 BOX2 KB_f_2
    clear b9
    go_wp2_with fail
    go_ret
    exact ⟨rfl, BEL3.out⟩
  have BEL0 : Hid (Below w.heap.size w w) := Below.refl _ _
  have BOX0 : Hid (Boxes w w []) := boxes_none w w
  have hR := (fitsS_iff _ _).1 hf
  obtain ⟨R, rfl⟩ : ∃ R : Nat, a1 = R := ⟨a1.toNat, by omega⟩
  obtain ⟨n, rfl⟩ : ∃ n : Nat, a2 = n := ⟨a2.toNat, by omega⟩
  have r1 : 1 ≤ R := by omega
  have r2 : R ≤ 7 := by omega
  have n1 : 1 ≤ n := by omega
  have n2 : n ≤ 256 := by omega
  have HF : Hid (fitsS R n = true) := hf
  have OK : Hid (OkG R n (fun _ _ => 0)) := okG_none hf
  clear hR hf
  have FA_l_0 : Hid (HeldX [] (fun uq => ItAt uq (.slice Al m capl) m K q) w) := heldX_keep fun u k => LA.out.keep k
  go_enter Try.func7, Try.ntmps7
  go_wp2_with fail
  refine (gnew_ok a0 R n _ HF.out).mono ?_
  rintro e ww1 ⟨x1, rfl, f1, b1⟩
  obtain ⟨vf, rfl, hvf⟩ := f1.at
  obtain ⟨Af, cf, bbf, oof, rfl, hx1, hx2⟩ := hvf.read
  clear hx1 hx2 hvf
  have FA_f_1 : Hid (HeldX [] (fun uq => SgAt uq (.agg #[.int .u64 a0, .slice Af R cf]) a0 R (fun _ => n) (fun _ _ => 0)) ww1) := Held.new f1 BOX0.out
  have BEL1 := h_bel BEL0 b1
  have BOX1 := h_box BOX0 b1
  have FA_l_1 := h_fact FA_l_0 b1
  clear BEL0 BOX0 FA_l_0
  clear b1 f1
  have BEL2 := a_bel BEL1 (.cells #[.int .u64 a0, .slice Af R cf] 25)
  have BOX2 := a_box BOX1 BEL1 (.cells #[.int .u64 a0, .slice Af R cf] 25)
  have FA_l_2 := a_fact FA_l_1 (.cells #[.int .u64 a0, .slice Af R cf] 25)
  have FA_f_2 := a_fact FA_f_1 (.cells #[.int .u64 a0, .slice Af R cf] 25)
  have KB_f_2 := n_blk (u := ww1) 25 #[.int .u64 a0, .slice Af R cf]
  clear BEL1 BOX1 FA_l_1 FA_f_1
  go_wp2_with fail
  refine (gfew_any _ _ m K q FA_l_2.out.at hm (fun i hi => (hk i hi).1)).mono ?_
  rintro e ww2 ⟨B, rfl, hB, hw⟩
  obtain rfl := hw
  have HB : Hid (B = true ↔ FewG m K q) := hB
  clear hB
  cases B
  · go_wp2_with fail
    refine (gawake_any _).mono ?_
    rintro e ww99 ⟨rfl, b9⟩
    have BEL3 := h_bel BEL2 b9
    have BOX3 := h_box BOX2 b9
    have FA_l_3 := h_fact FA_l_2 b9
    have FA_f_3 := h_fact FA_f_2 b9
    have KB_f_3 := h_blk KB_f_2 b9
    clear BEL2 BOX2 FA_l_2 FA_f_2 KB_f_2
    clear b9
    go_wp2_with fail
    go_ret
    exact ⟨rfl, BEL3.out⟩
  obtain ⟨m40, hk2⟩ := HB.out.1 rfl
  have HK : Hid (∀ i, i < m → (K i).size ≤ 100 ∧ -1073741824 ≤ q i ∧ q i ≤ 1073741824) := hk2
  clear HB hk hk2
  by_cases hs : s.size > 100
  · have hs2 : (s.size : Int) > 100 := by omega
    go_wp2_with fail
    refine (gawake_any _).mono ?_
    rintro e ww99 ⟨rfl, b9⟩
    have BEL3 := h_bel BEL2 b9
    have BOX3 := h_box BOX2 b9
    have FA_l_3 := h_fact FA_l_2 b9
    have FA_f_3 := h_fact FA_f_2 b9
    have KB_f_3 := h_blk KB_f_2 b9
    clear BEL2 BOX2 FA_l_2 FA_f_2 KB_f_2
    clear b9
    go_wp2_with fail
    go_ret
    exact ⟨rfl, BEL3.out⟩
  have hs2 : ¬ (s.size : Int) > 100 := by omega
  have hs3 : s.size ≤ 100 := by omega
  have OKA : Hid (∀ k, k ≤ m → OkG R n (addsG a0 n (fun _ _ => 0) K q k)) := fun k hk => OkG.adds OK.out (a := 0) (fun i _ j _ => ⟨by omega, by omega⟩) K (fun t ht => (HK.out t (by omega)).2) (by omega)
  have CE_f_0 : (ww1.alloc (.cells #[.int .u64 a0, .slice Af R cf] 25)).cell? ⟨ww1.heap.size, 0, none⟩ = some (.int .u64 a0) := KB_f_2.out.cell 0
  have CE_f_1 : (ww1.alloc (.cells #[.int .u64 a0, .slice Af R cf] 25)).cell? ⟨ww1.heap.size, 1, none⟩ = some (.slice Af R cf) := KB_f_2.out.cell 1
  have CE_f_lt : ww1.heap.size < (ww1.alloc (.cells #[.int .u64 a0, .slice Af R cf] 25)).heap.size := KB_f_2.out.lt
  go_wp2_with fail
  refine (gadds_any _ _ _ [ww1.heap.size] a0 R n m _ K q FA_f_2.out (fun g hg => (BOX2.out g hg).2) FA_l_2.out.at OKA.out uS (by omega) HK.out).mono ?_
  rintro e ww3 ⟨A2, cap2, rfl, f2, b2⟩
  clear CE_f_0 CE_f_1 CE_f_lt
  have BEL3 := h_bel BEL2 b2
  have BOX3 := h_box BOX2 b2
  have FA_l_3 := h_fact FA_l_2 b2
  have FA_f_3 := h_fact FA_f_2 b2
  have KB_f_3 := h_blk KB_f_2 b2
  clear BEL2 BOX2 FA_l_2 FA_f_2 KB_f_2
  clear b2
  have FA_g_3 : Hid (HeldX [ww1.heap.size] (fun uq => SgAt uq (.agg #[.int .u64 a0, .slice A2 R cap2]) a0 R (fun _ => n) (addsG a0 n (fun _ _ => 0) K q m)) ww3) := f2
  clear f2
  clear FA_f_3
  have CE_f_0 : ww3.cell? ⟨ww1.heap.size, 0, none⟩ = some (.int .u64 a0) := KB_f_3.out.cell 0
  have CF_f_0 : ww3.frozen? ⟨ww1.heap.size, 0, none⟩ = false := KB_f_3.out.frozen 0
  have CE_f_1 : ww3.cell? ⟨ww1.heap.size, 1, none⟩ = some (.slice Af R cf) := KB_f_3.out.cell 1
  have CF_f_1 : ww3.frozen? ⟨ww1.heap.size, 1, none⟩ = false := KB_f_3.out.frozen 1
  have CE_f_lt : ww1.heap.size < ww3.heap.size := KB_f_3.out.lt
  go_upto_region 5 with fail
  clear CE_f_0 CF_f_0 CE_f_1 CF_f_1 CE_f_lt
  obtain ⟨u2, hv⟩ : ∃ q, q = ((ww3.setCell ⟨ww1.heap.size, 0, none⟩ (.int .u64 a0)).setCell ⟨ww1.heap.size, 1, none⟩ (.slice A2 R cap2)) := ⟨_, rfl⟩
  rw [← hv]
  have pe : u2 = putCells ww3 ww1.heap.size 0 [.int .u64 a0, .slice A2 R cap2] := hv
  clear hv
  have BEL4 := p_bel pe BEL3 BOX3 List.mem_cons_self
  have BOX4 := p_box pe BOX3
  have FA_l_4 := p_fact pe FA_l_3 List.mem_cons_self
  have FA_g_4 := p_fact pe FA_g_3 List.mem_cons_self
  have KB_f_4 : Hid (Blk u2 ww1.heap.size 25 #[.int .u64 a0, .slice A2 R cap2]) := p_blk pe KB_f_3 rfl
  clear pe BEL3 BOX3 FA_l_3 FA_g_3 KB_f_3
  generalize ww1.heap.size = gf at BOX4 FA_l_4 FA_g_4 KB_f_4 ⊢
  clear BOX4 FA_l_4
  go_wp2_with fail
  go_loopg [13, 48] m (fun gk o i wr => ∃ (k : Nat) (O : Int), (gk = m - k ∧ k ≤ m ∧ O = ownF K q s k ∧ Below u2.heap.size u2 wr) ∧ o = .int .i64 O ∧ i = .int .i64 (k : Int))
  case atStart => exact ⟨0, 0, ⟨rfl, by omega, rfl, Below.refl _ _⟩, rfl, rfl⟩
  case round =>
    obtain ⟨k, O, ⟨hg, hk, hO, hb⟩, rfl, rfl⟩ := hrel
    have HQ : Hid (gk = m - k ∧ O = ownF K q s k ∧ Below u2.heap.size u2 wr) := ⟨hg, hO, hb⟩
    have ob := ownF_bound (l := K) (q := q) (s := s) (m := 1073741824) (by omega) (k := k) fun t ht => (HK.out t (by omega)).2
    have o0 : -42949672960 ≤ O := by rw [hO]; omega
    have o1 : O ≤ 42949672960 := by rw [hO]; omega
    clear ob
    by_cases hlt : k < m
    · obtain rfl := L3.out (by omega)
      obtain ⟨d1, d2⟩ := L4.out k hlt
      have c1 : wr.cell? ⟨bl, ol + k * 2, none⟩ = some (.string (K k)) := keep_of_below (bel_trans BEL4.out hb) _ _ d1
      have c2 : wr.cell? ⟨bl, ol + k * 2 + 1, none⟩ = some (.int .i64 (q k)) := keep_of_below (bel_trans BEL4.out hb) _ _ d2
      have b1 : (k : Int) < (m : Int) := by omega
      have b0 : (0 : Int) ≤ (k : Int) := by omega
      have hkk := HK.out k hlt
      obtain ⟨y, hy⟩ : ∃ y, y = K k := ⟨_, rfl⟩
      obtain ⟨z, hz⟩ : ∃ z, z = q k := ⟨_, rfl⟩
      rw [← hy] at c1 hkk
      rw [← hz] at c2 hkk
      obtain ⟨ys, z0, z1⟩ := hkk
      have HY : Hid (y = K k ∧ z = q k) := ⟨hy, hz⟩
      clear d1 d2 hy hz
      have hsz := hb.size
      clear hg hO
      by_cases hE : y = s
      · have e1 : (y.toList == s.toList) = true := (str_eq y s).2 hE
        have HE : Hid (y = s) := hE
        have BI : Hid (Below u2.heap.size u2 (wr.alloc (.cells #[.string y, .int .i64 z] 54))) := bel_trans hb (bel_alloc _ _)
        clear hE hb
        go_wp2_with fail
        go_roundg (m - (k + 1))
        case measure => have := HQ.out.1; omega
        case rel => exact ⟨k + 1, O + z, ⟨rfl, by omega, by show O + z = ownF K q s k + (if K k = s then q k else 0); rw [← HY.out.1, ← HY.out.2, if_pos HE.out, HQ.out.2.1], BI.out⟩, by go_num, by go_num⟩
      · have e1 : (y.toList == s.toList) = false := str_ne hE
        have HE : Hid (¬ y = s) := hE
        have BI : Hid (Below u2.heap.size u2 (wr.alloc (.cells #[.string y, .int .i64 z] 54))) := bel_trans hb (bel_alloc _ _)
        clear hE hb
        go_wp2_with fail
        go_roundg (m - (k + 1))
        case measure => have := HQ.out.1; omega
        case rel => exact ⟨k + 1, O, ⟨rfl, by omega, by show O = ownF K q s k + (if K k = s then q k else 0); rw [← HY.out.1, ← HY.out.2, if_neg HE.out, Int.add_zero, HQ.out.2.1], BI.out⟩, by go_num, by go_num⟩
    · obtain rfl : m = k := by omega
      have b1 : ¬ (m : Int) < (m : Int) := by omega
      have HO : Hid (O = ownF K q s m) := hO
      have HW : Hid (Below u2.heap.size u2 wr) := hb
      have GO : Hid (Calls Try.prog 16 #[.agg #[.int .u64 a0, .slice A2 R cap2], .string s] wr fun e w' => e = .returned (.int .i64 (getG a0 R n (addsG a0 n (fun _ _ => 0) K q m) s)) ∧ Below wr.heap.size wr w') := gget_ok _ _ a0 R n _ s (FA_g_4.out.since HW.out).at (OKA.out m (Nat.le_refl _)) uS (by omega)
      have x0 : wr.cell? ⟨gf, 0, none⟩ = some (.int .u64 a0) := (KB_f_4.out.since hb).cell 0
      have x1 : wr.cell? ⟨gf, 1, none⟩ = some (.slice A2 R cap2) := (KB_f_4.out.since hb).cell 1
      clear hg hO hb HQ
      go_wp2_with fail
      refine GO.out.mono ?_
      rintro e w4 ⟨rfl, b4⟩
      have B4 : Hid (Below u2.heap.size u2 w4) := bel_trans HW.out b4
      obtain ⟨G, hG⟩ : ∃ G, G = getG a0 R n (addsG a0 n (fun _ _ => 0) K q m) s := ⟨_, rfl⟩
      have gb := getG_fits (S := a0) (OKA.out m (Nat.le_refl _)) s
      rw [← hG] at gb ⊢
      obtain ⟨g0, g1⟩ := gb
      have HG : Hid (G = getG a0 R n (addsG a0 n (fun _ _ => 0) K q m) s) := hG
      clear b4 x0 x1 GO hG HW
      go_wp2_with fail
      go_loopg [17, 18, 19] R (fun gk a b i wr => ∃ (k : Nat) (B : Bool), (gk = R - k ∧ k ≤ R ∧ SayN B (NearG a0 n m K q s O G k) ∧ Below u2.heap.size u2 wr) ∧ a = .int .i64 ((aloneN a0 n m K q s k : Nat) : Int) ∧ b = .bool B ∧ i = .int .i64 (k : Int))
      case atStart => exact ⟨0, false, ⟨rfl, by omega, near_start, B4.out⟩, rfl, rfl, rfl⟩
      case round =>
        clear B4
        obtain ⟨k, B, ⟨hg, hk, hN, hb⟩, rfl, rfl, rfl⟩ := hrel
        have HQ : Hid (gk = R - k ∧ SayN B (NearG a0 n m K q s O G k) ∧ Below u2.heap.size u2 wr) := ⟨hg, hN, hb⟩
        obtain ⟨al, hal⟩ : ∃ al, al = aloneN a0 n m K q s k := ⟨_, rfl⟩
        have al7 : al ≤ 7 := by rw [hal]; have := aloneN_le a0 n m K q s k; omega
        rw [← hal]
        have HA : Hid (al = aloneN a0 n m K q s k) := hal
        clear hg hN hb hal
        by_cases hkl : k < R
        · have bk : (k : Int) < (R : Int) := by omega
          obtain ⟨PS, hPS⟩ : ∃ PS, PS = cellN a0 s n k := ⟨_, rfl⟩
          have HS : Hid (PS = cellN a0 s n k) := hPS
          clear hPS
          go_wp2_with fail
          go_loopg [20, 71] m (fun gj o i wi => ∃ (c : Nat) (X : Int), (gj = m - c ∧ c ≤ m ∧ X = othF a0 n K q s k c ∧ Below u2.heap.size u2 wi) ∧ o = .int .i64 X ∧ i = .int .i64 (c : Int))
          case atStart => exact ⟨0, 0, ⟨rfl, by omega, rfl, HQ.out.2.2⟩, rfl, rfl⟩
          case round =>
            obtain ⟨c, X, ⟨hg, hc, hX, hb⟩, rfl, rfl⟩ := hrel
            have HJ : Hid (gk = m - c ∧ X = othF a0 n K q s k c ∧ Below u2.heap.size u2 wr) := ⟨hg, hX, hb⟩
            have xb := othF_bound (S := a0) (n := n) (l := K) (q := q) (s := s) (i := k) (m := 1073741824) (by omega) (k := c) fun t ht => (HK.out t (by omega)).2
            have x0 : 0 ≤ X := by rw [hX]; omega
            have x1 : X ≤ 42949672960 := by rw [hX]; omega
            clear xb
            by_cases hlt : c < m
            · obtain rfl := L3.out (by omega)
              obtain ⟨d1, d2⟩ := L4.out c hlt
              have c1 : wr.cell? ⟨bl, ol + c * 2, none⟩ = some (.string (K c)) := keep_of_below (bel_trans BEL4.out hb) _ _ d1
              have c2 : wr.cell? ⟨bl, ol + c * 2 + 1, none⟩ = some (.int .i64 (q c)) := keep_of_below (bel_trans BEL4.out hb) _ _ d2
              have b1 : (c : Int) < (m : Int) := by omega
              have b0 : (0 : Int) ≤ (c : Int) := by omega
              have hkk := HK.out c hlt
              obtain ⟨y, hy⟩ : ∃ y, y = K c := ⟨_, rfl⟩
              obtain ⟨z, hz⟩ : ∃ z, z = q c := ⟨_, rfl⟩
              rw [← hy] at c1 hkk
              rw [← hz] at c2 hkk
              obtain ⟨ys, z0, z1⟩ := hkk
              have HY : Hid (y = K c ∧ z = q c) := ⟨hy, hz⟩
              clear d1 d2 hy hz
              obtain ⟨PY, hPY⟩ : ∃ PY, PY = cellN a0 y n k := ⟨_, rfl⟩
              have HP : Hid (PY = cellN a0 y n k) := hPY
              have BI : Hid (Below u2.heap.size u2 (wr.alloc (.cells #[.string y, .int .i64 z] 54))) := bel_trans hb (bel_alloc _ _)
              have KI : Hid (Blk (wr.alloc (.cells #[.string y, .int .i64 z] 54)) wr.heap.size 54 #[.string y, .int .i64 z]) := Blk.new _ _ _
              clear hg hX hb hPY
              go_upto_region 21 with fail
              clear c1 c2
              generalize wr.alloc (.cells #[.string y, .int .i64 z] 54) = v0 at BI KI ⊢
              generalize wr.heap.size = gi at KI ⊢
              have KF : Hid (Blk v0 gf 25 #[.int .u64 a0, .slice A2 R cap2]) := KB_f_4.out.since BI.out
              have CY : Hid (∀ w1, Below v0.heap.size v0 w1 → Calls Try.prog 18 #[.agg #[.int .u64 a0, .slice A2 R cap2], .string y, .int .i64 (k : Int)] w1 fun e w' => e = .returned (.int .i64 (PY : Int)) ∧ Below v0.heap.size v0 w') := fun w1 b1 => (gat_ok w1 _ a0 R n _ y _ (FA_g_4.out.since (bel_trans BI.out b1)).at (OKA.out m (Nat.le_refl _)) uS (by omega)).mono fun e w' h => ⟨by rw [HP.out, ← atG_in hkl]; exact h.1, bel_trans b1 h.2⟩
              have CS : Hid (∀ w1, Below v0.heap.size v0 w1 → Calls Try.prog 18 #[.agg #[.int .u64 a0, .slice A2 R cap2], .string s, .int .i64 (k : Int)] w1 fun e w' => e = .returned (.int .i64 (PS : Int)) ∧ Below v0.heap.size v0 w') := fun w1 b1 => (gat_ok w1 _ a0 R n _ s _ (FA_g_4.out.since (bel_trans BI.out b1)).at (OKA.out m (Nat.le_refl _)) uS (by omega)).mono fun e w' h => ⟨by rw [HS.out, ← atG_in hkl]; exact h.1, bel_trans b1 h.2⟩
              by_cases hE : y = s
              · have e1 : (y.toList == s.toList) = true := (str_eq y s).2 hE
                have e2 : (y.toList != s.toList) = false := by simp [hE]
                have HE : Hid (y = s) := hE
                clear hE CY CS
                refine letterQ ?_
                intro QQ hQQ
                have Z0 : Hid (Below v0.heap.size v0 v0.drew) := (Below.refl _ _).drew
                refine wp_region_held_drew (S := fun w2 => Below v0.heap.size v0 w2) (by kernel_rfl) Z0.out (fun hHeld => ?_)
                clear hHeld
                generalize v0.drew = q0 at Z0 ⊢
                refine wpAnyH_take (i := 0) (v := ?_) rfl (by kernel_rfl) (by kernel_rfl) (by kernel_rfl) (fun _ _ _ h => h) (Or.inl ⟨by rfl, ?_⟩) Z0.out ?_
                rotate_left
                · intro wq hSw; go_simp; first | done | with_reducible rfl
                simp only [List.getElem_toArray, List.getElem_cons_zero, Act.put, List.setIfInBounds_toArray, List.set_cons_zero, List.set_cons_succ]
                refine wpAnyH_take (i := 1) (v := ?_) rfl (by kernel_rfl) (by kernel_rfl) (by kernel_rfl) (fun _ _ _ h => h) (Or.inl ⟨by rfl, ?_⟩) Z0.out ?_
                rotate_left
                · intro wq hSw; have cl0 := (KI.out.since hSw).cell 0; go_simp; first | done | with_reducible rfl
                simp only [List.getElem_toArray, List.getElem_cons_zero, List.getElem_cons_succ, Act.put, List.setIfInBounds_toArray, List.set_cons_zero, List.set_cons_succ]
                refine wpAnyH_take (i := 2) (v := ?_) rfl (by kernel_rfl) (by kernel_rfl) (by kernel_rfl) (fun _ _ _ h => h) (Or.inl ⟨by rfl, ?_⟩) Z0.out ?_
                rotate_left
                · intro wq hSw; go_simp; first | done | with_reducible rfl
                simp only [List.getElem_toArray, List.getElem_cons_zero, List.getElem_cons_succ, Act.put, List.setIfInBounds_toArray, List.set_cons_zero, List.set_cons_succ]
                refine wpAnyH_take (i := 3) (v := ?_) rfl (by kernel_rfl) (by kernel_rfl) (by kernel_rfl) (fun _ _ _ h => h) (Or.inl ⟨by rfl, ?_⟩) Z0.out ?_
                rotate_left
                · intro wq hSw; go_simp; first | done | with_reducible rfl
                simp only [List.getElem_toArray, List.getElem_cons_zero, List.getElem_cons_succ, Act.put, List.setIfInBounds_toArray, List.set_cons_zero, List.set_cons_succ]
                refine wpAnyH_take (i := 4) (v := ?_) rfl (by kernel_rfl) (by kernel_rfl) (by kernel_rfl) (fun _ _ _ h => h) (Or.inl ⟨by rfl, ?_⟩) Z0.out ?_
                rotate_left
                · intro wq hSw; go_simp; first | done | with_reducible rfl
                simp only [List.getElem_toArray, List.getElem_cons_zero, List.getElem_cons_succ, Act.put, List.setIfInBounds_toArray, List.set_cons_zero, List.set_cons_succ]
                refine wpAnyH_take (i := 5) (v := undef) rfl (by kernel_rfl) (by kernel_rfl) (by kernel_rfl) (fun _ _ _ h => h) (Or.inr ⟨by rfl, rfl⟩) Z0.out ?_
                simp only [List.getElem_toArray, List.getElem_cons_zero, List.getElem_cons_succ, Act.put, List.setIfInBounds_toArray, List.set_cons_zero, List.set_cons_succ]
                refine wpAnyH_take (i := 6) (v := undef) rfl (by kernel_rfl) (by kernel_rfl) (by kernel_rfl) (fun _ _ _ h => h) (Or.inr ⟨by rfl, rfl⟩) Z0.out ?_
                simp only [List.getElem_toArray, List.getElem_cons_zero, List.getElem_cons_succ, Act.put, List.setIfInBounds_toArray, List.set_cons_zero, List.set_cons_succ]
                refine wpAnyH_take (i := 7) (v := undef) rfl (by kernel_rfl) (by kernel_rfl) (by kernel_rfl) (fun _ _ _ h => h) (Or.inr ⟨by rfl, rfl⟩) Z0.out ?_
                simp only [List.getElem_toArray, List.getElem_cons_zero, List.getElem_cons_succ, Act.put, List.setIfInBounds_toArray, List.set_cons_zero, List.set_cons_succ]
                refine wpAnyH_take (i := 8) (v := undef) rfl (by kernel_rfl) (by kernel_rfl) (by kernel_rfl) (fun _ _ _ h => h) (Or.inr ⟨by rfl, rfl⟩) Z0.out ?_
                simp only [List.getElem_toArray, List.getElem_cons_zero, List.getElem_cons_succ, Act.put, List.setIfInBounds_toArray, List.set_cons_zero, List.set_cons_succ]
                refine wpAnyH_take (i := 9) (v := undef) rfl (by kernel_rfl) (by kernel_rfl) (by kernel_rfl) (fun _ _ _ h => h) (Or.inr ⟨by rfl, rfl⟩) Z0.out ?_
                simp only [List.getElem_toArray, List.getElem_cons_zero, List.getElem_cons_succ, Act.put, List.setIfInBounds_toArray, List.set_cons_zero, List.set_cons_succ]
                refine wpAnyH_take (i := 10) (v := undef) rfl (by kernel_rfl) (by kernel_rfl) (by kernel_rfl) (fun _ _ _ h => h) (Or.inr ⟨by rfl, rfl⟩) Z0.out ?_
                simp only [List.getElem_toArray, List.getElem_cons_zero, List.getElem_cons_succ, Act.put, List.setIfInBounds_toArray, List.set_cons_zero, List.set_cons_succ]
                refine wpAnyH_take (i := 11) (v := undef) rfl (by kernel_rfl) (by kernel_rfl) (by kernel_rfl) (fun _ _ _ h => h) (Or.inr ⟨by rfl, rfl⟩) Z0.out ?_
                simp only [List.getElem_toArray, List.getElem_cons_zero, List.getElem_cons_succ, Act.put, List.setIfInBounds_toArray, List.set_cons_zero, List.set_cons_succ]
                refine wpAnyH_take (i := 12) (v := undef) rfl (by kernel_rfl) (by kernel_rfl) (by kernel_rfl) (fun _ _ _ h => h) (Or.inr ⟨by rfl, rfl⟩) Z0.out ?_
                simp only [List.getElem_toArray, List.getElem_cons_zero, List.getElem_cons_succ, Act.put, List.setIfInBounds_toArray, List.set_cons_zero, List.set_cons_succ]
                refine wpAnyH_take (i := 13) (v := undef) rfl (by kernel_rfl) (by kernel_rfl) (by kernel_rfl) (fun _ _ _ h => h) (Or.inr ⟨by rfl, rfl⟩) Z0.out ?_
                simp only [List.getElem_toArray, List.getElem_cons_zero, List.getElem_cons_succ, Act.put, List.setIfInBounds_toArray, List.set_cons_zero, List.set_cons_succ]
                refine wpAnyH_take (i := 14) (v := undef) rfl (by kernel_rfl) (by kernel_rfl) (by kernel_rfl) (fun _ _ _ h => h) (Or.inr ⟨by rfl, rfl⟩) Z0.out ?_
                simp only [List.getElem_toArray, List.getElem_cons_zero, List.getElem_cons_succ, Act.put, List.setIfInBounds_toArray, List.set_cons_zero, List.set_cons_succ]
                refine wpAnyH_take (i := 15) (v := ?_) rfl (by kernel_rfl) (by kernel_rfl) (by kernel_rfl) (fun _ _ _ h => h) (Or.inl ⟨by rfl, ?_⟩) Z0.out ?_
                rotate_left
                · intro wq hSw; go_simp; first | done | with_reducible rfl
                simp only [List.getElem_toArray, List.getElem_cons_zero, List.getElem_cons_succ, Act.put, List.setIfInBounds_toArray, List.set_cons_zero, List.set_cons_succ]
                refine wpAnyH_done (by kernel_rfl) ?_ _
                refine NoPanic.normal ?_
                refine hQQ.out _ _ ?_
                clear hQQ
                have BJ : Hid (Below u2.heap.size u2 q0) := bel_trans BI.out Z0.out
                clear Z0 e1 e2
                go_wp2_with fail
                go_roundg (m - (c + 1))
                case measure => have := HJ.out.1; omega
                case rel => exact ⟨c + 1, X, ⟨rfl, by omega, by show X = othF a0 n K q s k c + (if K c ≠ s ∧ cellN a0 (K c) n k = cellN a0 s n k then max (q c) (-q c) else 0); rw [if_neg (fun h => h.1 (by rw [← HY.out.1]; exact HE.out)), Int.add_zero, HJ.out.2.1], BJ.out⟩, by go_num, by go_num⟩
              · have e1 : (y.toList == s.toList) = false := str_ne hE
                have e2 : (y.toList != s.toList) = true := by rw [bne, e1]; rfl
                have HE : Hid (¬ y = s) := hE
                clear hE
                by_cases hp : PY = PS
                · have ep : ((PY : Int) == (PS : Int)) = true := by simp [hp]
                  have HPP : Hid (PY = PS) := hp
                  clear hp
                  refine letterQ ?_
                  intro QQ hQQ
                  have Z0 : Hid (Below v0.heap.size v0 v0.drew) := (Below.refl _ _).drew
                  refine wp_region_held_drew (S := fun w2 => Below v0.heap.size v0 w2) (by kernel_rfl) Z0.out (fun hHeld => ?_)
                  clear hHeld
                  generalize v0.drew = q0 at Z0 ⊢
                  refine wpAnyH_take (i := 0) (v := ?_) rfl (by kernel_rfl) (by kernel_rfl) (by kernel_rfl) (fun _ _ _ h => h) (Or.inl ⟨by rfl, ?_⟩) Z0.out ?_
                  rotate_left
                  · intro wq hSw; go_simp; first | done | with_reducible rfl
                  simp only [List.getElem_toArray, List.getElem_cons_zero, Act.put, List.setIfInBounds_toArray, List.set_cons_zero, List.set_cons_succ]
                  refine wpAnyH_take (i := 1) (v := ?_) rfl (by kernel_rfl) (by kernel_rfl) (by kernel_rfl) (fun _ _ _ h => h) (Or.inl ⟨by rfl, ?_⟩) Z0.out ?_
                  rotate_left
                  · intro wq hSw; have cl0 := (KI.out.since hSw).cell 0; go_simp; first | done | with_reducible rfl
                  simp only [List.getElem_toArray, List.getElem_cons_zero, List.getElem_cons_succ, Act.put, List.setIfInBounds_toArray, List.set_cons_zero, List.set_cons_succ]
                  refine wpAnyH_take (i := 2) (v := ?_) rfl (by kernel_rfl) (by kernel_rfl) (by kernel_rfl) (fun _ _ _ h => h) (Or.inl ⟨by rfl, ?_⟩) Z0.out ?_
                  rotate_left
                  · intro wq hSw; go_simp; first | done | with_reducible rfl
                  simp only [List.getElem_toArray, List.getElem_cons_zero, List.getElem_cons_succ, Act.put, List.setIfInBounds_toArray, List.set_cons_zero, List.set_cons_succ]
                  refine wpAnyH_take (i := 3) (v := ?_) rfl (by kernel_rfl) (by kernel_rfl) (by kernel_rfl) (fun _ _ _ h => h) (Or.inl ⟨by rfl, ?_⟩) Z0.out ?_
                  rotate_left
                  · intro wq hSw; go_simp; first | done | with_reducible rfl
                  simp only [List.getElem_toArray, List.getElem_cons_zero, List.getElem_cons_succ, Act.put, List.setIfInBounds_toArray, List.set_cons_zero, List.set_cons_succ]
                  refine wpAnyH_take (i := 4) (v := ?_) rfl (by kernel_rfl) (by kernel_rfl) (by kernel_rfl) (fun _ _ _ h => h) (Or.inl ⟨by rfl, ?_⟩) Z0.out ?_
                  rotate_left
                  · intro wq hSw; go_simp; first | done | with_reducible rfl
                  simp only [List.getElem_toArray, List.getElem_cons_zero, List.getElem_cons_succ, Act.put, List.setIfInBounds_toArray, List.set_cons_zero, List.set_cons_succ]
                  refine wpAnyH_take (i := 5) (v := ?_) rfl (by kernel_rfl) (by kernel_rfl) (by kernel_rfl) (fun _ _ _ h => h) (Or.inl ⟨by rfl, ?_⟩) Z0.out ?_
                  rotate_left
                  · intro wq hSw; have cl0 := (KF.out.since hSw).cell 0; have cl1 := (KF.out.since hSw).cell 1; go_simp; first | done | with_reducible rfl
                  simp only [List.getElem_toArray, List.getElem_cons_zero, List.getElem_cons_succ, Act.put, List.setIfInBounds_toArray, List.set_cons_zero, List.set_cons_succ]
                  refine wpAnyH_take (i := 6) (v := ?_) rfl (by kernel_rfl) (by kernel_rfl) (by kernel_rfl) (fun _ _ _ h => h) (Or.inl ⟨by rfl, ?_⟩) Z0.out ?_
                  rotate_left
                  · intro wq hSw; go_simp; first | done | with_reducible rfl
                  simp only [List.getElem_toArray, List.getElem_cons_zero, List.getElem_cons_succ, Act.put, List.setIfInBounds_toArray, List.set_cons_zero, List.set_cons_succ]
                  refine wpAnyH_take (i := 7) (v := ?_) rfl (by kernel_rfl) (by kernel_rfl) (by kernel_rfl) (fun _ _ _ h => h) (Or.inl ⟨by rfl, ?_⟩) Z0.out ?_
                  rotate_left
                  · intro wq hSw; have cl0 := (KI.out.since hSw).cell 0; go_simp; first | done | with_reducible rfl
                  simp only [List.getElem_toArray, List.getElem_cons_zero, List.getElem_cons_succ, Act.put, List.setIfInBounds_toArray, List.set_cons_zero, List.set_cons_succ]
                  refine wpAnyH_take (i := 8) (v := ?_) rfl (by kernel_rfl) (by kernel_rfl) (by kernel_rfl) (fun _ _ _ h => h) (Or.inl ⟨by rfl, ?_⟩) Z0.out ?_
                  rotate_left
                  · intro wq hSw; go_simp; first | done | with_reducible rfl
                  simp only [List.getElem_toArray, List.getElem_cons_zero, List.getElem_cons_succ, Act.put, List.setIfInBounds_toArray, List.set_cons_zero, List.set_cons_succ]
                  refine wpAnyH_take (i := 10) (v := ?_) rfl (by kernel_rfl) (by kernel_rfl) (by kernel_rfl) (fun _ _ _ h => h) (Or.inl ⟨by rfl, ?_⟩) Z0.out ?_
                  rotate_left
                  · intro wq hSw; have cl0 := (KF.out.since hSw).cell 0; have cl1 := (KF.out.since hSw).cell 1; go_simp; first | done | with_reducible rfl
                  simp only [List.getElem_toArray, List.getElem_cons_zero, List.getElem_cons_succ, Act.put, List.setIfInBounds_toArray, List.set_cons_zero, List.set_cons_succ]
                  refine wpAnyH_take (i := 11) (v := ?_) rfl (by kernel_rfl) (by kernel_rfl) (by kernel_rfl) (fun _ _ _ h => h) (Or.inl ⟨by rfl, ?_⟩) Z0.out ?_
                  rotate_left
                  · intro wq hSw; go_simp; first | done | with_reducible rfl
                  simp only [List.getElem_toArray, List.getElem_cons_zero, List.getElem_cons_succ, Act.put, List.setIfInBounds_toArray, List.set_cons_zero, List.set_cons_succ]
                  refine wpAnyH_take (i := 12) (v := ?_) rfl (by kernel_rfl) (by kernel_rfl) (by kernel_rfl) (fun _ _ _ h => h) (Or.inl ⟨by rfl, ?_⟩) Z0.out ?_
                  rotate_left
                  · intro wq hSw; go_simp; first | done | with_reducible rfl
                  simp only [List.getElem_toArray, List.getElem_cons_zero, List.getElem_cons_succ, Act.put, List.setIfInBounds_toArray, List.set_cons_zero, List.set_cons_succ]
                  refine wpAnyH_ready (rs := [9]) (by kernel_rfl) (by simp) ?_
                  refine AllReadyH.cons rfl (fun K0 hK0 => ?_) ?_
                  rotate_left
                  · exact AllReadyH.nil
                  refine step_func 18 #[.agg #[.int .u64 a0, .slice A2 R cap2], .string y, .int .i64 (k : Int)] (by rfl) rfl (by simp [Act.eval]) (fun _ _ => by kernel_rfl) ?_
                  refine (CY.out _ Z0.out).mono ?_
                  rintro e q1 ⟨rfl, cc⟩
                  have Z1 : Hid (Below v0.heap.size v0 q1) := cc
                  clear cc
                  refine ⟨_, rfl, ?_⟩
                  refine hK0.out _ _ Z1.out (fun hHeld => ?_)
                  clear hK0 K0 hHeld
                  simp only [Act.put, List.setIfInBounds_toArray]
                  refine wpAnyH_ready (rs := [13]) (by kernel_rfl) (by simp) ?_
                  refine AllReadyH.cons rfl (fun K0 hK0 => ?_) ?_
                  rotate_left
                  · exact AllReadyH.nil
                  refine step_func 18 #[.agg #[.int .u64 a0, .slice A2 R cap2], .string s, .int .i64 (k : Int)] (by rfl) rfl (by simp [Act.eval]) (fun _ _ => by kernel_rfl) ?_
                  refine (CS.out _ Z1.out).mono ?_
                  rintro e q2 ⟨rfl, cc⟩
                  have Z2 : Hid (Below v0.heap.size v0 q2) := cc
                  clear cc
                  refine ⟨_, rfl, ?_⟩
                  refine hK0.out _ _ Z2.out (fun hHeld => ?_)
                  clear hK0 K0 hHeld
                  refine wpAnyH_take (i := 14) (v := ?_) rfl (by kernel_rfl) (by kernel_rfl) (by kernel_rfl) (fun _ _ _ h => h) (Or.inl ⟨by rfl, ?_⟩) Z2.out ?_
                  rotate_left
                  · intro wq hSw; go_simp; first | done | with_reducible rfl
                  simp only [List.getElem_toArray, List.getElem_cons_zero, List.getElem_cons_succ, Act.put, List.setIfInBounds_toArray, List.set_cons_zero, List.set_cons_succ]
                  refine wpAnyH_take (i := 15) (v := ?_) rfl (by kernel_rfl) (by kernel_rfl) (by kernel_rfl) (fun _ _ _ h => h) (Or.inl ⟨by rfl, ?_⟩) Z2.out ?_
                  rotate_left
                  · intro wq hSw; go_simp; first | done | with_reducible rfl
                  simp only [List.getElem_toArray, List.getElem_cons_zero, List.getElem_cons_succ, Act.put, List.setIfInBounds_toArray, List.set_cons_zero, List.set_cons_succ]
                  refine wpAnyH_done (by kernel_rfl) ?_ _
                  refine NoPanic.normal ?_
                  refine hQQ.out _ _ ?_
                  clear hQQ
                  have BJ : Hid (Below u2.heap.size u2 q2) := bel_trans BI.out Z2.out
                  have i1 : q2.cell? ⟨gi, 1, none⟩ = some (.int .i64 z) := (KI.out.since Z2.out).cell 1
                  clear Z0 Z1 Z2 e1 e2 CY CS
                  have wn : IntKind.i64.wrap (-z) = -z := by rw [IntKind.wrap_i64]; omega
                  obtain ⟨mx, hmx⟩ : ∃ mx, mx = max z (-z) := ⟨_, rfl⟩
                  have HM : Hid (mx = max z (-z)) := hmx
                  have EO : Hid (X + mx = othF a0 n K q s k (c + 1)) := by
                    show X + mx = othF a0 n K q s k c + (if K c ≠ s ∧ cellN a0 (K c) n k = cellN a0 s n k then max (q c) (-q c) else 0)
                    rw [if_pos ⟨fun h => HE.out (by rw [HY.out.1]; exact h), by rw [← HY.out.1, ← HP.out, ← HS.out]; exact HPP.out⟩, ← HY.out.2, ← HM.out, HJ.out.2.1]
                  by_cases hz0 : 0 ≤ z
                  · have ez : mx = z := by omega
                    have m1 : ¬ z < -z := by omega
                    have m2 : -z ≤ z := by omega
                    rw [ez] at EO
                    clear hmx ez
                    go_wp2_with fail
                    go_roundg (m - (c + 1))
                    case measure => have := HJ.out.1; omega
                    case rel => exact ⟨c + 1, X + z, ⟨rfl, by omega, EO.out, BJ.out⟩, by go_num, by go_num⟩
                  · have ez : mx = -z := by omega
                    have m1 : z < -z := by omega
                    have m2 : ¬ -z ≤ z := by omega
                    have m3 : z ≤ -z := by omega
                    rw [ez] at EO
                    clear hmx ez
                    go_wp2_with fail
                    go_roundg (m - (c + 1))
                    case measure => have := HJ.out.1; omega
                    case rel => exact ⟨c + 1, X + -z, ⟨rfl, by omega, EO.out, BJ.out⟩, by go_num, by go_num⟩
                · have ep : ((PY : Int) == (PS : Int)) = false := by simp; omega
                  have HPP : Hid (¬ PY = PS) := hp
                  clear hp
                  refine letterQ ?_
                  intro QQ hQQ
                  have Z0 : Hid (Below v0.heap.size v0 v0.drew) := (Below.refl _ _).drew
                  refine wp_region_held_drew (S := fun w2 => Below v0.heap.size v0 w2) (by kernel_rfl) Z0.out (fun hHeld => ?_)
                  clear hHeld
                  generalize v0.drew = q0 at Z0 ⊢
                  refine wpAnyH_take (i := 0) (v := ?_) rfl (by kernel_rfl) (by kernel_rfl) (by kernel_rfl) (fun _ _ _ h => h) (Or.inl ⟨by rfl, ?_⟩) Z0.out ?_
                  rotate_left
                  · intro wq hSw; go_simp; first | done | with_reducible rfl
                  simp only [List.getElem_toArray, List.getElem_cons_zero, Act.put, List.setIfInBounds_toArray, List.set_cons_zero, List.set_cons_succ]
                  refine wpAnyH_take (i := 1) (v := ?_) rfl (by kernel_rfl) (by kernel_rfl) (by kernel_rfl) (fun _ _ _ h => h) (Or.inl ⟨by rfl, ?_⟩) Z0.out ?_
                  rotate_left
                  · intro wq hSw; have cl0 := (KI.out.since hSw).cell 0; go_simp; first | done | with_reducible rfl
                  simp only [List.getElem_toArray, List.getElem_cons_zero, List.getElem_cons_succ, Act.put, List.setIfInBounds_toArray, List.set_cons_zero, List.set_cons_succ]
                  refine wpAnyH_take (i := 2) (v := ?_) rfl (by kernel_rfl) (by kernel_rfl) (by kernel_rfl) (fun _ _ _ h => h) (Or.inl ⟨by rfl, ?_⟩) Z0.out ?_
                  rotate_left
                  · intro wq hSw; go_simp; first | done | with_reducible rfl
                  simp only [List.getElem_toArray, List.getElem_cons_zero, List.getElem_cons_succ, Act.put, List.setIfInBounds_toArray, List.set_cons_zero, List.set_cons_succ]
                  refine wpAnyH_take (i := 3) (v := ?_) rfl (by kernel_rfl) (by kernel_rfl) (by kernel_rfl) (fun _ _ _ h => h) (Or.inl ⟨by rfl, ?_⟩) Z0.out ?_
                  rotate_left
                  · intro wq hSw; go_simp; first | done | with_reducible rfl
                  simp only [List.getElem_toArray, List.getElem_cons_zero, List.getElem_cons_succ, Act.put, List.setIfInBounds_toArray, List.set_cons_zero, List.set_cons_succ]
                  refine wpAnyH_take (i := 4) (v := ?_) rfl (by kernel_rfl) (by kernel_rfl) (by kernel_rfl) (fun _ _ _ h => h) (Or.inl ⟨by rfl, ?_⟩) Z0.out ?_
                  rotate_left
                  · intro wq hSw; go_simp; first | done | with_reducible rfl
                  simp only [List.getElem_toArray, List.getElem_cons_zero, List.getElem_cons_succ, Act.put, List.setIfInBounds_toArray, List.set_cons_zero, List.set_cons_succ]
                  refine wpAnyH_take (i := 5) (v := ?_) rfl (by kernel_rfl) (by kernel_rfl) (by kernel_rfl) (fun _ _ _ h => h) (Or.inl ⟨by rfl, ?_⟩) Z0.out ?_
                  rotate_left
                  · intro wq hSw; have cl0 := (KF.out.since hSw).cell 0; have cl1 := (KF.out.since hSw).cell 1; go_simp; first | done | with_reducible rfl
                  simp only [List.getElem_toArray, List.getElem_cons_zero, List.getElem_cons_succ, Act.put, List.setIfInBounds_toArray, List.set_cons_zero, List.set_cons_succ]
                  refine wpAnyH_take (i := 6) (v := ?_) rfl (by kernel_rfl) (by kernel_rfl) (by kernel_rfl) (fun _ _ _ h => h) (Or.inl ⟨by rfl, ?_⟩) Z0.out ?_
                  rotate_left
                  · intro wq hSw; go_simp; first | done | with_reducible rfl
                  simp only [List.getElem_toArray, List.getElem_cons_zero, List.getElem_cons_succ, Act.put, List.setIfInBounds_toArray, List.set_cons_zero, List.set_cons_succ]
                  refine wpAnyH_take (i := 7) (v := ?_) rfl (by kernel_rfl) (by kernel_rfl) (by kernel_rfl) (fun _ _ _ h => h) (Or.inl ⟨by rfl, ?_⟩) Z0.out ?_
                  rotate_left
                  · intro wq hSw; have cl0 := (KI.out.since hSw).cell 0; go_simp; first | done | with_reducible rfl
                  simp only [List.getElem_toArray, List.getElem_cons_zero, List.getElem_cons_succ, Act.put, List.setIfInBounds_toArray, List.set_cons_zero, List.set_cons_succ]
                  refine wpAnyH_take (i := 8) (v := ?_) rfl (by kernel_rfl) (by kernel_rfl) (by kernel_rfl) (fun _ _ _ h => h) (Or.inl ⟨by rfl, ?_⟩) Z0.out ?_
                  rotate_left
                  · intro wq hSw; go_simp; first | done | with_reducible rfl
                  simp only [List.getElem_toArray, List.getElem_cons_zero, List.getElem_cons_succ, Act.put, List.setIfInBounds_toArray, List.set_cons_zero, List.set_cons_succ]
                  refine wpAnyH_take (i := 10) (v := ?_) rfl (by kernel_rfl) (by kernel_rfl) (by kernel_rfl) (fun _ _ _ h => h) (Or.inl ⟨by rfl, ?_⟩) Z0.out ?_
                  rotate_left
                  · intro wq hSw; have cl0 := (KF.out.since hSw).cell 0; have cl1 := (KF.out.since hSw).cell 1; go_simp; first | done | with_reducible rfl
                  simp only [List.getElem_toArray, List.getElem_cons_zero, List.getElem_cons_succ, Act.put, List.setIfInBounds_toArray, List.set_cons_zero, List.set_cons_succ]
                  refine wpAnyH_take (i := 11) (v := ?_) rfl (by kernel_rfl) (by kernel_rfl) (by kernel_rfl) (fun _ _ _ h => h) (Or.inl ⟨by rfl, ?_⟩) Z0.out ?_
                  rotate_left
                  · intro wq hSw; go_simp; first | done | with_reducible rfl
                  simp only [List.getElem_toArray, List.getElem_cons_zero, List.getElem_cons_succ, Act.put, List.setIfInBounds_toArray, List.set_cons_zero, List.set_cons_succ]
                  refine wpAnyH_take (i := 12) (v := ?_) rfl (by kernel_rfl) (by kernel_rfl) (by kernel_rfl) (fun _ _ _ h => h) (Or.inl ⟨by rfl, ?_⟩) Z0.out ?_
                  rotate_left
                  · intro wq hSw; go_simp; first | done | with_reducible rfl
                  simp only [List.getElem_toArray, List.getElem_cons_zero, List.getElem_cons_succ, Act.put, List.setIfInBounds_toArray, List.set_cons_zero, List.set_cons_succ]
                  refine wpAnyH_ready (rs := [9]) (by kernel_rfl) (by simp) ?_
                  refine AllReadyH.cons rfl (fun K0 hK0 => ?_) ?_
                  rotate_left
                  · exact AllReadyH.nil
                  refine step_func 18 #[.agg #[.int .u64 a0, .slice A2 R cap2], .string y, .int .i64 (k : Int)] (by rfl) rfl (by simp [Act.eval]) (fun _ _ => by kernel_rfl) ?_
                  refine (CY.out _ Z0.out).mono ?_
                  rintro e q1 ⟨rfl, cc⟩
                  have Z1 : Hid (Below v0.heap.size v0 q1) := cc
                  clear cc
                  refine ⟨_, rfl, ?_⟩
                  refine hK0.out _ _ Z1.out (fun hHeld => ?_)
                  clear hK0 K0 hHeld
                  simp only [Act.put, List.setIfInBounds_toArray]
                  refine wpAnyH_ready (rs := [13]) (by kernel_rfl) (by simp) ?_
                  refine AllReadyH.cons rfl (fun K0 hK0 => ?_) ?_
                  rotate_left
                  · exact AllReadyH.nil
                  refine step_func 18 #[.agg #[.int .u64 a0, .slice A2 R cap2], .string s, .int .i64 (k : Int)] (by rfl) rfl (by simp [Act.eval]) (fun _ _ => by kernel_rfl) ?_
                  refine (CS.out _ Z1.out).mono ?_
                  rintro e q2 ⟨rfl, cc⟩
                  have Z2 : Hid (Below v0.heap.size v0 q2) := cc
                  clear cc
                  refine ⟨_, rfl, ?_⟩
                  refine hK0.out _ _ Z2.out (fun hHeld => ?_)
                  clear hK0 K0 hHeld
                  refine wpAnyH_take (i := 14) (v := ?_) rfl (by kernel_rfl) (by kernel_rfl) (by kernel_rfl) (fun _ _ _ h => h) (Or.inl ⟨by rfl, ?_⟩) Z2.out ?_
                  rotate_left
                  · intro wq hSw; go_simp; first | done | with_reducible rfl
                  simp only [List.getElem_toArray, List.getElem_cons_zero, List.getElem_cons_succ, Act.put, List.setIfInBounds_toArray, List.set_cons_zero, List.set_cons_succ]
                  refine wpAnyH_take (i := 15) (v := ?_) rfl (by kernel_rfl) (by kernel_rfl) (by kernel_rfl) (fun _ _ _ h => h) (Or.inl ⟨by rfl, ?_⟩) Z2.out ?_
                  rotate_left
                  · intro wq hSw; go_simp; first | done | with_reducible rfl
                  simp only [List.getElem_toArray, List.getElem_cons_zero, List.getElem_cons_succ, Act.put, List.setIfInBounds_toArray, List.set_cons_zero, List.set_cons_succ]
                  refine wpAnyH_done (by kernel_rfl) ?_ _
                  refine NoPanic.normal ?_
                  refine hQQ.out _ _ ?_
                  clear hQQ
                  have BJ : Hid (Below u2.heap.size u2 q2) := bel_trans BI.out Z2.out
                  clear Z0 Z1 Z2 e1 e2 CY CS
                  go_wp2_with fail
                  go_roundg (m - (c + 1))
                  case measure => have := HJ.out.1; omega
                  case rel => exact ⟨c + 1, X, ⟨rfl, by omega, by show X = othF a0 n K q s k c + (if K c ≠ s ∧ cellN a0 (K c) n k = cellN a0 s n k then max (q c) (-q c) else 0); rw [if_neg (fun h => HPP.out (by rw [HP.out, HS.out, HY.out.1]; exact h.2)), Int.add_zero, HJ.out.2.1], BJ.out⟩, by go_num, by go_num⟩
            · obtain rfl : m = c := by omega
              have b1 : ¬ (m : Int) < (m : Int) := by omega
              have HX : Hid (X = othF a0 n K q s k m) := hX
              have BW : Hid (Below u2.heap.size u2 wr) := hb
              clear hg hX hb HJ
              have AE : Hid (X = 0 ∧ al + 1 = aloneN a0 n m K q s (k + 1) ∨ X ≠ 0 ∧ al = aloneN a0 n m K q s (k + 1)) := by
                show X = 0 ∧ al + 1 = aloneN a0 n m K q s k + (if othF a0 n K q s k m = 0 then 1 else 0) ∨ X ≠ 0 ∧ al = aloneN a0 n m K q s k + (if othF a0 n K q s k m = 0 then 1 else 0)
                rw [← HX.out, ← HA.out]
                by_cases h : X = 0
                · exact Or.inl ⟨h, by rw [if_pos h]⟩
                · exact Or.inr ⟨h, by rw [if_neg h]; rfl⟩
              by_cases hx : X = 0
              · have ex : (X == 0) = true := by simp [hx]
                have HV : Hid (al + 1 = aloneN a0 n m K q s (k + 1)) := by
                  rcases AE.out with h | h
                  · exact h.2
                  · exact absurd hx h.1
                clear AE hx
                cases B with
                | true =>
                  go_wp2_with fail
                  go_roundg (R - (k + 1))
                  case measure => have := HQ.out.1; omega
                  case rel => exact ⟨k + 1, _, ⟨rfl, by omega, near_old HQ.out.2.1, BW.out⟩, by show _ = Value.int .i64 ((aloneN a0 n m K q s (k + 1) : Nat) : Int); rw [← HV.out] <;> first | rfl | go_num, rfl, by go_num⟩
                | false =>
                  by_cases h1 : O - X ≤ G
                  rotate_left
                  · have h1' : ¬ G ≥ O - X := by omega
                    have HN2 : Hid (¬ (O - X ≤ G ∧ G ≤ O + X)) := fun h => h1 h.1
                    clear h1
                    go_wp2_with fail
                    go_roundg (R - (k + 1))
                    case measure => have := HQ.out.1; omega
                    case rel => exact ⟨k + 1, _, ⟨rfl, by omega, near_out HQ.out.2.1 HX.out HN2.out, BW.out⟩, by show _ = Value.int .i64 ((aloneN a0 n m K q s (k + 1) : Nat) : Int); rw [← HV.out] <;> first | rfl | go_num, rfl, by go_num⟩
                  have h1' : G ≥ O - X := by omega
                  by_cases h2 : G ≤ O + X
                  rotate_left
                  · have HN2 : Hid (¬ (O - X ≤ G ∧ G ≤ O + X)) := fun h => h2 h.2
                    go_wp2_with fail
                    go_roundg (R - (k + 1))
                    case measure => have := HQ.out.1; omega
                    case rel => exact ⟨k + 1, _, ⟨rfl, by omega, near_out HQ.out.2.1 HX.out HN2.out, BW.out⟩, by show _ = Value.int .i64 ((aloneN a0 n m K q s (k + 1) : Nat) : Int); rw [← HV.out] <;> first | rfl | go_num, rfl, by go_num⟩
                  go_wp2_with fail
                  go_roundg (R - (k + 1))
                  case measure => have := HQ.out.1; omega
                  case rel => exact ⟨k + 1, _, ⟨rfl, by omega, near_in HX.out h1 h2, BW.out⟩, by show _ = Value.int .i64 ((aloneN a0 n m K q s (k + 1) : Nat) : Int); rw [← HV.out] <;> first | rfl | go_num, rfl, by go_num⟩
              · have ex : (X == 0) = false := by simpa using hx
                have HV : Hid (al = aloneN a0 n m K q s (k + 1)) := by
                  rcases AE.out with h | h
                  · exact absurd h.1 hx
                  · exact h.2
                clear AE hx
                cases B with
                | true =>
                  go_wp2_with fail
                  go_roundg (R - (k + 1))
                  case measure => have := HQ.out.1; omega
                  case rel => exact ⟨k + 1, _, ⟨rfl, by omega, near_old HQ.out.2.1, BW.out⟩, by show _ = Value.int .i64 ((aloneN a0 n m K q s (k + 1) : Nat) : Int); rw [← HV.out] <;> first | rfl | go_num, rfl, by go_num⟩
                | false =>
                  by_cases h1 : O - X ≤ G
                  rotate_left
                  · have h1' : ¬ G ≥ O - X := by omega
                    have HN2 : Hid (¬ (O - X ≤ G ∧ G ≤ O + X)) := fun h => h1 h.1
                    clear h1
                    go_wp2_with fail
                    go_roundg (R - (k + 1))
                    case measure => have := HQ.out.1; omega
                    case rel => exact ⟨k + 1, _, ⟨rfl, by omega, near_out HQ.out.2.1 HX.out HN2.out, BW.out⟩, by show _ = Value.int .i64 ((aloneN a0 n m K q s (k + 1) : Nat) : Int); rw [← HV.out] <;> first | rfl | go_num, rfl, by go_num⟩
                  have h1' : G ≥ O - X := by omega
                  by_cases h2 : G ≤ O + X
                  rotate_left
                  · have HN2 : Hid (¬ (O - X ≤ G ∧ G ≤ O + X)) := fun h => h2 h.2
                    go_wp2_with fail
                    go_roundg (R - (k + 1))
                    case measure => have := HQ.out.1; omega
                    case rel => exact ⟨k + 1, _, ⟨rfl, by omega, near_out HQ.out.2.1 HX.out HN2.out, BW.out⟩, by show _ = Value.int .i64 ((aloneN a0 n m K q s (k + 1) : Nat) : Int); rw [← HV.out] <;> first | rfl | go_num, rfl, by go_num⟩
                  go_wp2_with fail
                  go_roundg (R - (k + 1))
                  case measure => have := HQ.out.1; omega
                  case rel => exact ⟨k + 1, _, ⟨rfl, by omega, near_in HX.out h1 h2, BW.out⟩, by show _ = Value.int .i64 ((aloneN a0 n m K q s (k + 1) : Nat) : Int); rw [← HV.out] <;> first | rfl | go_num, rfl, by go_num⟩
        · have bk : ¬ (k : Int) < (R : Int) := by omega
          obtain rfl : R = k := by omega
          have BW : Hid (Below u2.heap.size u2 wr) := HQ.out.2.2
          obtain rfl : B = true := HQ.out.2.1.2 (by
            have t := get_near (S := a0) (n := n) (m := m) (l := K) (q := q) (s := s) (R := R) (by omega)
            rw [← HG.out, ← HO.out] at t
            exact t)
          by_cases h2 : 2 * al ≤ R
          · have h3 : 2 * (al : Int) ≤ (R : Int) := by omega
            go_wp2_with fail
            refine (gawake_any _).mono ?_
            rintro e ww9 ⟨rfl, b9⟩
            go_wp2_with fail
            go_ret
            exact ⟨rfl, bel_trans (bel_trans BEL4.out BW.out) b9⟩
          · have h3 : ¬ 2 * (al : Int) ≤ (R : Int) := by omega
            have hGO : G = O := by
              rw [HG.out, HO.out]
              exact get_alone OK.out.2.2.1 (by rw [← HA.out]; omega)
            have h4 : (G == O) = true := by simp [hGO]
            clear hGO
            go_wp2_with fail
            refine (gawake_any _).mono ?_
            rintro e ww9 ⟨rfl, b9⟩
            go_wp2_with fail
            go_ret
            exact ⟨rfl, bel_trans (bel_trans BEL4.out BW.out) b9⟩

/-! ### The row -/
theorem laidOut : laidOutB Try.prog = true := by kernel_rfl
set_option maxRecDepth 100000 in
theorem lifted (os : Os) (started : os.Started) (H : Type) (enc : TypeId × Value → H) :
    ReturnsInHanded {} Try.checked os 7 .any (Rows.signedAloneSpec.pre6 enc Try.prog Try.f7 Rows.signedAloneRow.domain false) (Rows.signedAloneSpec.post enc Try.prog Try.f7 false true false false) := by
  refine returnsInHanded_of_change (C := Try.checked) own started (by kernel_rfl) Try.func7
    (ChangeSpec.witness6 (enc := enc) (C := Try.checked) false ⟨#[], #[.int .u64 0, .int .i64 0, .int .i64 0, .slice none 0 0, .string ⟨#[]⟩], []⟩ 8 (by kernel_rfl) (by kernel_rfl) (by kernel_rfl) (by kernel_rfl)) ?_
  intro W base args ds gs before hval0 hW hcnd _
  have hval : ∀ (j : Nat) t v, Try.f7.params[j]? = some t → args[j]? = some v → Value.okWide Try.prog W .any base t v := hval0
  have hW' := hW
  obtain ⟨p, q, hA0, hV, rfl, hfz, hnd⟩ := hW
  have hA : DataW.TrodAll enc Try.prog W 0 (fun _ => true) true Try.f7.params.toList args.toList ds p := hA0
  rw [Try.params7] at hA hval
  obtain ⟨v0, vs0, d0, ds0, p0, q0, hargs, rfl, rfl, h0, r0⟩ := trodAll_cons hA
  obtain ⟨v1, vs1, d1, ds1, p1, q1, rfl, rfl, rfl, h1, r1⟩ := trodAll_cons r0
  obtain ⟨v2, vs2, d2, ds2, p2, q2, rfl, rfl, rfl, h2, r2⟩ := trodAll_cons r1
  obtain ⟨v3, vs3, d3, ds3, p3, q3, rfl, rfl, rfl, h3, r3⟩ := trodAll_cons r2
  obtain ⟨v4, vs4, d4, ds4, p4, q4, rfl, rfl, rfl, h4, r4⟩ := trodAll_cons r3
  obtain ⟨rfl, rfl, rfl⟩ := trodAll_nil r4
  obtain rfl : args = #[v0, v1, v2, v3, v4] := by cases args; simp_all
  obtain ⟨rfl, rfl⟩ := trodVars_none hV
  obtain ⟨a0, rfl, rfl, rfl, w0⟩ := open_int Try.underlying22 (hval 0 22 v0 rfl rfl) h0
  obtain ⟨a1, rfl, rfl, rfl, w1⟩ := open_int Try.underlying3 (hval 1 3 v1 rfl rfl) h1
  obtain ⟨a2, rfl, rfl, rfl, w2⟩ := open_int Try.underlying3 (hval 2 3 v2 rfl rfl) h2
  have k3 := h3
  have lt3 : ∀ x ∈ p3, x.block < W.heap.size := by obtain ⟨m, hm⟩ := k3; exact DataW.trod_lt m _ _ _ hm
  obtain ⟨F3, w3⟩ := open_items (hval 3 50 v3 rfl rfl) h3
  obtain ⟨a4, rfl, rfl, rfl, w4⟩ := open_string Try.underlying9 (hval 4 9 v4 rfl rfl) h4
  clear hA0 hval0
  refine (walk a0 a1 a2 v3 F3 a4 W w0 w1 w2 w3 w4).mono fun e W' ⟨he, bel⟩ => ?_
  subst he
  exact ⟨_, rfl, _, _, _, [], _, [], hW', trodAll_mk1 (shut_bool Try.underlying4 _), (trodAll_cons_mk (shut_int Try.underlying22 w0) (trodAll_cons_mk (shut_int Try.underlying3 w1) (trodAll_cons_mk (shut_int Try.underlying3 w2) (trodAll_cons_mk (Below.trod laidOut (by kernel_rfl) (of_decide_eq_true (by kernel_rfl)) k3 bel lt3) (trodAll_cons_mk (shut_string Try.underlying9 w4) trodAll_mk0))))), rfl, bel.frame _, fun h => by cases h⟩

theorem over : Rows.signedAloneRow.holds Try.pinned (OpenSpec.ofChange Rows.signedAloneSpec) :=
  OpenClaim.holds_of_wide 7 Try.f7 rfl rfl rfl rfl rfl rfl rfl ⟨rfl, rfl, rfl, rfl, rfl⟩ rfl rfl rfl rfl rfl (by kernel_rfl) Try.func7 (by kernel_rfl)
    (of_decide_eq_true (by kernel_rfl)) (by unfold Func.isWrapper; first | (rw [if_pos (by decide +kernel)]; kernel_rfl) | (rw [if_neg (by decide +kernel)]; exact ⟨rfl, rfl⟩))
    (fun os started H enc _ => lifted os started H enc)

theorem proved : Rows.SignedAloneSaid := over
end Go.Proofs.Ytpjpgcjlbfgkdaa.signedAlone
namespace Go.Proofs.Ytpjpgcjlbfgkdaa
theorem signedAlone_holds : Rows.SignedAloneSaid := signedAlone.proved
#print axioms signedAlone_holds
end Go.Proofs.Ytpjpgcjlbfgkdaa
