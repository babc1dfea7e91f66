
/-
  What the laws of layer 13 call of their own: ref, awake, Short, adds.
-/
import Derived.Test.YtkfhofgmjhnknaaDoorBtmAdd
import Derived.Test.YtkfhofgmjhnknaaDoorBtmOpen
import Derived.Deep.Cut
import Derived.Deep.CutRange
namespace Go.Proofs.YtkfhofgmjhnknaaDoor
open Go.RowKit Fm Bl Bm L2 Go.Deep
set_option linter.unusedVariables false

set_option maxHeartbeats 800000 in
theorem mref_any (w : World) (x : Value) (S : Int) (R : Nat) (L : Nat → Nat) (Z : Nat → Nat → Bool) (h : MpAt w x S R L Z) : Calls Tryd.prog 10 #[x] w fun e w' => e = .returned x ∧ Below w.heap.size w w' := by
  obtain ⟨v, rfl, hv⟩ := h
  obtain ⟨A, cap, b, o, rfl, hc, hr⟩ := hv.read
  clear hv hr
  have BW : Hid (Below w.heap.size w ((w.alloc (.cells #[.int .u64 S, .slice A R cap] 25)).alloc (.cells #[.int .u64 0, .slice none 0 0] 30))) := (bel_alloc _ _).alloc (by simp) _
  have KX : Hid (Blk ((w.alloc (.cells #[.int .u64 S, .slice A R cap] 25)).alloc (.cells #[.int .u64 0, .slice none 0 0] 30)) w.heap.size 25 #[.int .u64 S, .slice A R cap]) := (Blk.new _ _ _).alloc _
  have KR : Hid (Blk ((w.alloc (.cells #[.int .u64 S, .slice A R cap] 25)).alloc (.cells #[.int .u64 0, .slice none 0 0] 30)) (w.heap.size + 1) 30 #[.int .u64 0, .slice none 0 0]) := by
    have e := Blk.new (w.alloc (.cells #[.int .u64 S, .slice A R cap] 25)) 30 #[.int .u64 0, .slice none 0 0]
    simp only [World.size_alloc] at e
    exact e
  go_enter Tryd.func10, Tryd.ntmps10
  go_upto_region 1 with fail
  have X0 : ((w.alloc (.cells #[.int .u64 S, .slice A R cap] 25)).alloc (.cells #[.int .u64 0, .slice none 0 0] 30)).cell? ⟨w.heap.size, 0, none⟩ = some (.int .u64 S) := KX.out.cell 0
  have X2 : ((w.alloc (.cells #[.int .u64 S, .slice A R cap] 25)).alloc (.cells #[.int .u64 0, .slice none 0 0] 30)).cell? ⟨w.heap.size, 1, none⟩ = some (.slice A R cap) := KX.out.cell 1
  have r0 : ((w.alloc (.cells #[.int .u64 S, .slice A R cap] 25)).alloc (.cells #[.int .u64 0, .slice none 0 0] 30)).cell? ⟨w.heap.size + 1, 0, none⟩ = some (.int .u64 0) := KR.out.cell 0
  have r2 : ((w.alloc (.cells #[.int .u64 S, .slice A R cap] 25)).alloc (.cells #[.int .u64 0, .slice none 0 0] 30)).cell? ⟨w.heap.size + 1, 1, none⟩ = some (.slice none 0 0) := KR.out.cell 1
  have z0 := KR.out.frozen 0
  have z1 := KR.out.frozen 1
  generalize (w.alloc (.cells #[.int .u64 S, .slice A R cap] 25)).alloc (.cells #[.int .u64 0, .slice none 0 0] 30) = wq at X0 X2 r0 r2 z0 z1 KR BW KX ⊢
  go_wp2_with fail
  refine bodyPost_ret (v := .agg #[.int .u64 S, .slice A R cap]) ?_ rfl ?_
  rotate_left
  · exact ⟨rfl, put2_below BW.out (by omega) _ _⟩
  have c3 := put2_blk (t := 30) (KR.out) (.int .u64 S) (.slice A R cap)
  have c30 := c3.cell 0
  have c31 := c3.cell 1
  change (results _ _).run _ (put2 (wq) (w.heap.size + 1) (.int .u64 S) (.slice A R cap)) = .ok _ (put2 (wq) (w.heap.size + 1) (.int .u64 S) (.slice A R cap))
  generalize put2 (wq) (w.heap.size + 1) (.int .u64 S) (.slice A R cap) = W5 at c30 c31
  simp [results, Tryd.results10, go_sem, c30, c31]
set_option maxHeartbeats 1600000 in
theorem mshort_any (w : World) (v : Value) (n : Nat) (L : Nat → ByteArray) (h : StrsAt w v n L) (hn : n ≤ 9223372036854775807) (hl : ∀ i, i < n → (L i).size ≤ 9223372036854775807) :
    Calls Tryd.prog 22 #[v, .int .i64 40] w (TellsB w (n ≤ 40 ∧ ∀ i, i < n → (L i).size ≤ 100)) := by
  obtain ⟨A, cap, b, o, rfl, hx1, q3, q4⟩ := h
  have Q3 : Hid (0 < n → A = some ⟨b, o, none⟩) := q3
  have Q4 : Hid (∀ i, i < n → w.cell? ⟨b, o + i, none⟩ = some (.string (L i))) := q4
  have HL : Hid (∀ i, i < n → (L i).size ≤ 9223372036854775807) := hl
  clear hx1 q3 q4 hl
  by_cases h40 : n ≤ 40
  rotate_left
  · have HN : Hid (¬ n ≤ 40) := h40
    have q : (40 : Int) < (n : Int) := by omega
    clear h40
    go_enter Tryd.func22, Tryd.ntmps22
    go_wp2_with fail
    go_ret
    exact ⟨false, rfl, ⟨fun h => (by cases h), fun h => absurd h.1 HN.out⟩, Below.refl _ _⟩
  have HN : Hid (n ≤ 40) := h40
  have q : ¬ (40 : Int) < (n : Int) := by omega
  go_enter Tryd.func22, Tryd.ntmps22
  go_wp2_with fail
  go_loop [5] (fun i => ∃ k : Nat, (k ≤ n ∧ ∀ j, j < k → (L j).size ≤ 100) ∧ i = .int .i64 (k : Int)) (fun i => n - (intOf i).toNat)
  case atStart => exact ⟨0, ⟨by omega, fun j hj => by omega⟩, rfl⟩
  case round =>
    obtain ⟨k, ⟨hk, ha⟩, rfl⟩ := hrel
    have HA : Hid (∀ j, j < k → (L j).size ≤ 100) := ha
    clear ha
    by_cases hlt : k < n
    · obtain rfl := Q3.out (by omega)
      have c1 := Q4.out k hlt
      have hz := HL.out k hlt
      have b1 : (k : Int) < (n : Int) := by omega
      by_cases hB : (L k).size ≤ 100
      · have HB : Hid ((L k).size ≤ 100) := hB
        have q2 : ¬ (100 : Int) < ((L k).size : Int) := by omega
        generalize hs : L k = s at c1 hz hB q2
        clear hs
        go_wp2_with fail
        go_round
        case rel =>
          refine ⟨k + 1, ⟨by omega, fun j hj => ?_⟩, by go_num⟩
          by_cases e : j = k
          · rw [e]; exact HB.out
          · exact HA.out j (by omega)
        case measure => simp [intOf]; omega
      · have HB : Hid (¬ (L k).size ≤ 100) := hB
        have q2 : (100 : Int) < ((L k).size : Int) := by omega
        generalize hs : L k = s at c1 hz hB q2
        clear hs hB
        go_wp2_with fail
        go_ret
        first
          | exact ⟨false, rfl, ⟨fun h => (by cases h), fun h => absurd (h.2 k hlt) HB.out⟩, Below.refl _ _⟩
          | exact ⟨false, rfl, ⟨fun h => (by cases h), fun h => absurd (h k hlt) HB.out⟩, Below.refl _ _⟩
    · have e : k = n := by omega
      have HE : Hid (k = n) := e
      have b1 : ¬ (k : Int) < (n : Int) := by omega
      clear e hlt hk
      go_wp2_with fail
      go_ret
      first
        | exact ⟨true, rfl, ⟨fun _ => ⟨HN.out, fun i hi => HA.out i (by rw [HE.out]; exact hi)⟩, fun _ => rfl⟩, Below.refl _ _⟩
        | exact ⟨true, rfl, ⟨fun _ i hi => HA.out i (by rw [HE.out]; exact hi), fun _ => rfl⟩, Below.refl _ _⟩
theorem awake_est (s : ByteArray) : estM 2 (addM 1 1 2 (fun _ _ => false) s) 1 = 65536 := by
  have l := lineN_lt 1 s 1 (by omega)
  have b := bitN_lt 1 s 2 (by omega)
  have e : addM 1 1 2 (fun _ _ => false) s 0 = fun q => if q = bitN 1 s 2 then true else (fun _ => false) q := by
    funext q
    unfold addM
    by_cases h : q = bitN 1 s 2
    · rw [if_pos ⟨by omega, h⟩, if_pos h]
    · rw [if_neg (fun x => h x.2), if_neg h]
  have c : cntB (addM 1 1 2 (fun _ _ => false) s 0) 2 = 1 := by
    rw [e, cntB_one, if_pos ⟨b, rfl⟩]
    simp [cntB]
  show estM 2 _ 0 + estC 2 (cntB _ 2) = 65536
  rw [c]
  simp [estM, estC]
theorem okM_1 (n : Nat) (h : 1 ≤ n) (h2 : n ≤ 256) : OkM 1 n := ⟨by omega, by omega, h, h2⟩
set_option maxRecDepth 4000 in
set_option maxHeartbeats 3200000 in
theorem mawake_any (w : World) (hT : TabAt 0 Lib.deBruijn64tab w) : Calls Tryd.prog 11 #[] w fun e w' => e = .returned (.bool true) ∧ Below w.heap.size w w' := by
  have HT : Hid (TabAt 0 Lib.deBruijn64tab w) := hT
  clear hT
  go_enter Tryd.func11, Tryd.ntmps11
  go_wp2_with fail
  refine (mnew_ok 1 1 2 _ (by decide)).mono ?_
  rintro e u1 ⟨xx1, rfl, f1, b1⟩
  have F1 : Hid (MpAt u1 xx1 1 1 (fun _ => 2) (fun _ _ => false)) := f1.at
  obtain ⟨v1, rfl, hv1⟩ := f1.at
  obtain ⟨A1, cap1, bb1, oo1, rfl, hx1, hx2⟩ := hv1.read
  clear hx1 hx2 hv1 f1
  have BW : Hid (Below w.heap.size w (u1.alloc (.cells #[.int .u64 1, .slice A1 1 cap1] 25))) := bel_trans b1 (bel_alloc _ _)
  have FW : Hid (MpAt (u1.alloc (.cells #[.int .u64 1, .slice A1 1 cap1] 25)) (.agg #[.int .u64 1, .slice A1 1 cap1]) 1 1 (fun _ => 2) (fun _ _ => false)) := F1.out.keep (keep_of_below (bel_alloc _ _))
  have KW : Hid (Blk (u1.alloc (.cells #[.int .u64 1, .slice A1 1 cap1] 25)) u1.heap.size 25 #[.int .u64 1, .slice A1 1 cap1]) := Blk.new _ _ _
  clear F1 b1
  go_wp2_with fail
  refine (mestim_ok _ _ 1 1 2 _ FW.out (okM_1 2 (by omega) (by omega))).mono ?_
  rintro e u2 ⟨rfl, b2⟩
  rw [show estM 2 (fun _ _ => false) 1 = 0 by simp [estM, estC, cntB]]
  have B2 : Hid (Below w.heap.size w u2) := bel_trans BW.out b2
  have F2 : Hid (MpAt u2 (.agg #[.int .u64 1, .slice A1 1 cap1]) 1 1 (fun _ => 2) (fun _ _ => false)) := FW.out.keep (keep_of_below b2)
  have K2 : Hid (Blk u2 u1.heap.size 25 #[.int .u64 1, .slice A1 1 cap1]) := KW.out.since b2
  clear b2 BW FW KW
  have x0 : u2.cell? ⟨u1.heap.size, 0, none⟩ = some (.int .u64 1) := K2.out.cell 0
  have x1 : u2.cell? ⟨u1.heap.size, 1, none⟩ = some (.slice A1 1 cap1) := K2.out.cell 1
  go_wp2_with fail
  refine (madd_ok _ _ 1 1 2 _ ⟨#[97]⟩ F2.out (okM_1 2 (by omega) (by omega)) ⟨by omega, by omega⟩ (by decide) (tabAt_keep HT.out (keep_of_below B2.out))).mono ?_
  rintro e u3 ⟨xx3, rfl, f3, b3⟩
  have B3 : Hid (Below w.heap.size w u3) := bel_trans B2.out b3
  have F3 : Hid (MpAt u3 xx3 1 1 (fun _ => 2) (addM 1 1 2 (fun _ _ => false) ⟨#[97]⟩)) := f3.at
  obtain ⟨v3, rfl, hv3⟩ := f3.at
  obtain ⟨A3, cap3, bb3, oo3, rfl, hx1, hx2⟩ := hv3.read
  clear hx1 hx2 hv3 f3 b3 x0 x1 B2 F2 K2
  go_wp2_with fail
  refine (mestim_ok _ _ 1 1 2 _ F3.out (okM_1 2 (by omega) (by omega))).mono ?_
  rintro e u4 ⟨rfl, b4⟩
  rw [awake_est]
  have B4 : Hid (Below w.heap.size w u4) := bel_trans B3.out b4
  clear b4 B3 F3
  have BX : Hid (Below w.heap.size w ((u4.alloc (.cells #[.bool true, .bool true] 4)).alloc (.cells #[.slice (some ⟨u4.heap.size, 0, none⟩) 2 2] 33))) := (bel_trans B4.out (bel_alloc _ _)).alloc (by have := B4.out.size; simp; omega) _
  have FX : Hid (MpAt ((u4.alloc (.cells #[.bool true, .bool true] 4)).alloc (.cells #[.slice (some ⟨u4.heap.size, 0, none⟩) 2 2] 33)) (.agg #[.int .u64 0, .slice (some ⟨u4.heap.size + 1, 0, none⟩) 1 1]) 0 1 (fun _ => 2) (fun _ _ => true)) := by
    have k1 : Blk (u4.alloc (.cells #[.bool true, .bool true] 4)) u4.heap.size 4 #[.bool true, .bool true] := Blk.new _ _ _
    have k2 := k1.alloc (.cells #[.slice (some ⟨u4.heap.size, 0, none⟩) 2 2] 33)
    have k3 := Blk.new (u4.alloc (.cells #[.bool true, .bool true] 4)) 33 #[.slice (some ⟨u4.heap.size, 0, none⟩) 2 2]
    simp only [World.size_alloc] at k3
    refine ⟨_, rfl, _, 1, u4.heap.size + 1, 0, fun _ => .slice (some ⟨u4.heap.size, 0, none⟩) 2 2, rfl, Nat.le_refl _, fun _ => rfl, fun r hr => ?_⟩
    obtain rfl : r = 0 := by omega
    refine ⟨k3.cell 0, _, 2, u4.heap.size, 0, rfl, Nat.le_refl _, fun _ => rfl, fun i hi => ?_⟩
    rw [k2.cell (0 + i)]
    match i, hi with
    | 0, _ => rfl
    | 1, _ => rfl
    | i + 2, h => exact absurd (show i + 2 < 2 from h) (by omega)
  go_wp2_with fail
  refine (mestim_ok _ _ 0 1 2 _ FX.out (okM_1 2 (by omega) (by omega))).mono ?_
  rintro e u5 ⟨rfl, b5⟩
  rw [show estM 2 (fun _ _ => true) 1 = 196608 by simp [estM, estC, cntB]]
  go_wp2_with fail
  go_ret
  exact ⟨rfl, bel_trans BX.out b5⟩
/-- What the loop of adds keeps. -/
structure AddsW (w wr : World) (X : List Nat) (S : Int) (A : Option Addr) (cap R n : Nat) (Z : Nat → Nat → Bool) : Prop where
  since : Below w.heap.size w wr
  box : Blk wr w.heap.size 25 #[.int .u64 S, .slice A R cap]
  res : Blk wr (w.heap.size + 1) 25 #[.int .u64 0, .slice none 0 0]
  sk : HeldX ((w.heap.size + 1) :: w.heap.size :: X) (fun u => MpAt u (.agg #[.int .u64 S, .slice A R cap]) S R (fun _ => n) Z) wr
theorem AddsW.next {w wr w2 : World} {X : List Nat} {S : Int} {A A2 : Option Addr} {cap cap2 R n : Nat} {Z Y : Nat → Nat → Bool} (h : AddsW w wr X S A cap R n Z) (hX : ∀ g, g ∈ X → g < w.heap.size) (b : Below wr.heap.size wr w2)
    (k : Held (fun q => wr.heap.size ≤ q) (fun u => MpAt u (.agg #[.int .u64 S, .slice A2 R cap2]) S R (fun _ => n) Y) w2) :
    AddsW w (put2 w2 w.heap.size (.int .u64 S) (.slice A2 R cap2)) X S A2 cap2 R n Y := by
  have l := h.res.lt
  refine ⟨put2_below (bel_trans h.since b) (Nat.le_refl _) _ _, put2_blk (h.box.since b) _ _, put2_other (h.res.since b) (by omega) _ _, ?_⟩
  rw [put2_eq]
  refine Held.put (k.mono fun q _ d m => ?_) (fun d => d (List.mem_cons_of_mem _ List.mem_cons_self))
  rcases List.mem_cons.1 m with m | m
  · omega
  · rcases List.mem_cons.1 m with m | m
    · omega
    · have := hX q m; omega
/-- A map that is told, away from such blocks. -/
def ToldX (X : List Nat) (w : World) (S : Int) (R n : Nat) (Z : Nat → Nat → Bool) (e : Ending) (w' : World) : Prop := ∃ A cap, e = .returned (.agg #[.int .u64 S, .slice A R cap]) ∧ HeldX X (fun u => MpAt u (.agg #[.int .u64 S, .slice A R cap]) S R (fun _ => n) Z) w' ∧ Below w.heap.size w w'
set_option maxHeartbeats 3200000 in
theorem madds_any (w : World) (x v : Value) (X : List Nat) (S : Int) (R n m : Nat) (Z : Nat → Nat → Bool) (K : Nat → ByteArray) (h : HeldX X (fun u => MpAt u x S R (fun _ => n) Z) w) (hX : ∀ g, g ∈ X → g < w.heap.size) (hl : StrsAt w v m K) (ok : OkM R n) (uS : U S) (hm : m ≤ 1000) (hk : ∀ i, i < m → (K i).size ≤ 100) (hT : TabAt 0 Lib.deBruijn64tab w) :
    Calls Tryd.prog 23 #[x, v] w (ToldX X w S R n (addsM S R n Z K m)) := by
  obtain ⟨v0, rfl, hv⟩ := h.at
  obtain ⟨A0, cap0, b, o, rfl, hc, hr⟩ := hv.read
  obtain ⟨A', cap', b', o', rfl, hc', q3, q4⟩ := hl
  have Q3 : Hid (0 < m → A' = some ⟨b', o', none⟩) := q3
  have Q4 : Hid (∀ i, i < m → w.cell? ⟨b', o' + i, none⟩ = some (.string (K i))) := q4
  have HL : Hid (∀ i, i < m → (K i).size ≤ 100) := hk
  have HX : Hid (∀ g, g ∈ X → g < w.heap.size) := hX
  have HT : Hid (TabAt 0 Lib.deBruijn64tab w) := hT
  have OK : Hid (OkM R n) := ok
  have AI : Hid (AddsW w ((w.alloc (.cells #[.int .u64 S, .slice A0 R cap0] 25)).alloc (.cells #[.int .u64 0, .slice none 0 0] 25)) X S A0 cap0 R n (addsM S R n Z K 0)) := by
    have e := Blk.new (w.alloc (.cells #[.int .u64 S, .slice A0 R cap0] 25)) 25 #[.int .u64 0, .slice none 0 0]
    simp only [World.size_alloc] at e
    have s := HeldX.alloc (HeldX.alloc h (.cells #[.int .u64 S, .slice A0 R cap0] 25)) (.cells #[.int .u64 0, .slice none 0 0] 25)
    simp only [World.size_alloc] at s
    exact ⟨(bel_alloc _ _).alloc (by simp) _, (Blk.new _ _ _).alloc _, e, s⟩
  clear h hv hr q3 q4 hk hX ok hT
  go_enter Tryd.func23, Tryd.ntmps23
  go_wp2_with fail
  generalize (w.alloc (.cells #[.int .u64 S, .slice A0 R cap0] 25)).alloc (.cells #[.int .u64 0, .slice none 0 0] 25) = u1 at AI ⊢
  go_loopg [9] m (fun gk i wr => ∃ (k : Nat) (A : Option Addr) (cap : Nat), (gk = m - k ∧ k ≤ m ∧ AddsW w wr X S A cap R n (addsM S R n Z K k)) ∧ i = .int .i64 (k : Int))
  case atStart => exact ⟨0, A0, cap0, ⟨rfl, by omega, AI.out⟩, rfl⟩
  case round =>
    clear AI
    obtain ⟨k, A, cap, ⟨hg, hk, hA⟩, rfl⟩ := hrel
    have HK : Hid (gk = m - k ∧ AddsW w wr X S A cap R n (addsM S R n Z K k)) := ⟨hg, hA⟩
    have x0 : wr.cell? ⟨w.heap.size, 0, none⟩ = some (.int .u64 S) := hA.box.cell 0
    have x2 : wr.cell? ⟨w.heap.size, 1, none⟩ = some (.slice A R cap) := hA.box.cell 1
    by_cases hlt : k < m
    · obtain rfl := Q3.out (by omega)
      have c1 : wr.cell? ⟨b', o' + k, none⟩ = some (.string (K k)) := keep_of_below hA.since _ _ (Q4.out k hlt)
      have hb1 : (k : Int) < (m : Int) := by omega
      have AC : Hid (Calls Tryd.prog 15 #[.agg #[.int .u64 S, .slice A R cap], .string (K k)] wr (GaveA wr S R (fun _ => n) (addsM S R n Z K (k + 1)))) := madd_ok wr _ S R n _ (K k) hA.sk.at OK.out uS (by have := HL.out k hlt; omega) (tabAt_keep HT.out (keep_of_below hA.since))
      generalize K k = s at c1 AC
      have K0 : Hid (Blk wr w.heap.size 25 #[.int .u64 S, .slice A R cap]) := hA.box
      clear hg hA
      go_wp2_with fail
      refine AC.out.mono ?_
      rintro e u2 ⟨xx2, rfl, f2, b2⟩
      obtain ⟨v2, rfl, hb2⟩ := f2.at
      obtain ⟨A2, cap2, bb2, oo2, rfl, hx1, hx2⟩ := hb2.read
      clear hx1 hx2 hb2
      have NX : Hid (AddsW w (put2 u2 w.heap.size (.int .u64 S) (.slice A2 R cap2)) X S A2 cap2 R n (addsM S R n Z K (k + 1))) := HK.out.2.next HX.out b2 f2
      have K2 := K0.out.since b2
      clear x0 x2 c1
      have y0 : u2.cell? ⟨w.heap.size, 0, none⟩ = some (.int .u64 S) := K2.cell 0
      have y2 : u2.cell? ⟨w.heap.size, 1, none⟩ = some (.slice A R cap) := K2.cell 1
      have z0 := K2.frozen 0
      have z1 := K2.frozen 1
      clear K2 f2 b2 AC K0
      go_wp2_with fail
      go_roundg (m - (k + 1))
      case measure => have := HK.out.1; omega
      case rel => exact ⟨k + 1, A2, cap2, ⟨rfl, by omega, NX.out⟩, by go_num⟩
    · have e : k = m := by omega
      have HE : Hid (k = m) := e
      have hb1 : ¬ (k : Int) < (m : Int) := by omega
      have r0 : wr.cell? ⟨w.heap.size + 1, 0, none⟩ = some (.int .u64 0) := hA.res.cell 0
      have r2 : wr.cell? ⟨w.heap.size + 1, 1, none⟩ = some (.slice none 0 0) := hA.res.cell 1
      have z0 := hA.res.frozen 0
      have z1 := hA.res.frozen 1
      clear e hlt hg hA hk
      go_wp2_with fail
      have DF : HeldX X (fun u => MpAt u (.agg #[.int .u64 S, .slice A R cap]) S R (fun _ => n) (addsM S R n Z K m)) (put2 wr (w.heap.size + 1) (.int .u64 S) (.slice A R cap)) := by
        rw [put2_eq]
        have s := HK.out.2.sk
        rw [HE.out] at s
        have t : HeldX ((w.heap.size + 1) :: w.heap.size :: X) _ (putCells wr (w.heap.size + 1) 0 [.int .u64 S, .slice A R cap]) := Held.put s (fun d => d List.mem_cons_self)
        exact t.fewer fun p hp => List.mem_cons_of_mem _ (List.mem_cons_of_mem _ hp)
      refine bodyPost_ret (v := .agg #[.int .u64 S, .slice A R cap]) ?_ rfl ?_
      rotate_left
      · exact ⟨_, _, rfl, DF, put2_below HK.out.2.since (by omega) _ _⟩
      have c3 := put2_blk (t := 25) (HK.out.2.res) (.int .u64 S) (.slice A R cap)
      have c30 := c3.cell 0
      have c31 := c3.cell 1
      change (results _ _).run _ (put2 (wr) (w.heap.size + 1) (.int .u64 S) (.slice A R cap)) = .ok _ (put2 (wr) (w.heap.size + 1) (.int .u64 S) (.slice A R cap))
      generalize put2 (wr) (w.heap.size + 1) (.int .u64 S) (.slice A R cap) = W5 at c30 c31
      simp [results, Tryd.results23, go_sem, c30, c31]
end Go.Proofs.YtkfhofgmjhnknaaDoor
