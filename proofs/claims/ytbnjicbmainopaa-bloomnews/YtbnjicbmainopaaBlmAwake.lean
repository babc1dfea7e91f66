
/-
  What the laws of layer 10 call of their own: ref, awake, adds; Short.
-/
import Derived.Test.YtbnjicbmainopaaBlmRow
import Derived.Test.YtbnjicbmainopaaBlmRead
import Derived.Test.YtbnjicbmainopaaBlmOpen
import Derived.Deep.Cut
import Derived.Deep.CutRange
namespace Go.Proofs.Ytbnjicbmainopaa
open Go.RowKit Fm Bl L2 Go.Deep
set_option linter.unusedVariables false

set_option maxHeartbeats 800000 in
theorem ref_any (w : World) (x : Value) (S H : Int) (n : Nat) (B : Nat → Bool) (h : FilterAt w x S H n B) : Calls Try.prog 11 #[x] w fun e w' => e = .returned x ∧ Below w.heap.size w w' := by
  obtain ⟨v, rfl, A, cap, b, o, rfl, hx1, hx2, hx3⟩ := h
  clear hx1 hx2 hx3
  have BW : Hid (Below w.heap.size w ((w.alloc (.cells #[.int .u64 S, .int .i64 H, .slice A n cap] 25)).alloc (.cells #[.int .u64 0, .int .i64 0, .slice none 0 0] 30))) := (bel_alloc _ _).alloc (by simp) _
  have KX : Hid (Blk ((w.alloc (.cells #[.int .u64 S, .int .i64 H, .slice A n cap] 25)).alloc (.cells #[.int .u64 0, .int .i64 0, .slice none 0 0] 30)) w.heap.size 25 #[.int .u64 S, .int .i64 H, .slice A n cap]) := (Blk.new _ _ _).alloc _
  have KR : Hid (Blk ((w.alloc (.cells #[.int .u64 S, .int .i64 H, .slice A n cap] 25)).alloc (.cells #[.int .u64 0, .int .i64 0, .slice none 0 0] 30)) (w.heap.size + 1) 30 #[.int .u64 0, .int .i64 0, .slice none 0 0]) := by
    have e := Blk.new (w.alloc (.cells #[.int .u64 S, .int .i64 H, .slice A n cap] 25)) 30 #[.int .u64 0, .int .i64 0, .slice none 0 0]
    simp only [World.size_alloc] at e
    exact e
  go_enter Try.func11, Try.ntmps11
  go_upto_region 1 with fail
  have X0 : ((w.alloc (.cells #[.int .u64 S, .int .i64 H, .slice A n cap] 25)).alloc (.cells #[.int .u64 0, .int .i64 0, .slice none 0 0] 30)).cell? ⟨w.heap.size, 0, none⟩ = some (.int .u64 S) := KX.out.cell 0
  have X1 : ((w.alloc (.cells #[.int .u64 S, .int .i64 H, .slice A n cap] 25)).alloc (.cells #[.int .u64 0, .int .i64 0, .slice none 0 0] 30)).cell? ⟨w.heap.size, 1, none⟩ = some (.int .i64 H) := KX.out.cell 1
  have X2 : ((w.alloc (.cells #[.int .u64 S, .int .i64 H, .slice A n cap] 25)).alloc (.cells #[.int .u64 0, .int .i64 0, .slice none 0 0] 30)).cell? ⟨w.heap.size, 2, none⟩ = some (.slice A n cap) := KX.out.cell 2
  have r0 : ((w.alloc (.cells #[.int .u64 S, .int .i64 H, .slice A n cap] 25)).alloc (.cells #[.int .u64 0, .int .i64 0, .slice none 0 0] 30)).cell? ⟨w.heap.size + 1, 0, none⟩ = some (.int .u64 0) := KR.out.cell 0
  have r1 : ((w.alloc (.cells #[.int .u64 S, .int .i64 H, .slice A n cap] 25)).alloc (.cells #[.int .u64 0, .int .i64 0, .slice none 0 0] 30)).cell? ⟨w.heap.size + 1, 1, none⟩ = some (.int .i64 0) := KR.out.cell 1
  have r2 : ((w.alloc (.cells #[.int .u64 S, .int .i64 H, .slice A n cap] 25)).alloc (.cells #[.int .u64 0, .int .i64 0, .slice none 0 0] 30)).cell? ⟨w.heap.size + 1, 2, none⟩ = some (.slice none 0 0) := KR.out.cell 2
  have z0 := KR.out.frozen 0
  have z1 := KR.out.frozen 1
  have z2 := KR.out.frozen 2
  generalize (w.alloc (.cells #[.int .u64 S, .int .i64 H, .slice A n cap] 25)).alloc (.cells #[.int .u64 0, .int .i64 0, .slice none 0 0] 30) = wq at X0 X1 X2 r0 r1 r2 z0 z1 z2 KR BW KX ⊢
  go_wp2_with fail
  refine bodyPost_ret (v := .agg #[.int .u64 S, .int .i64 H, .slice A n cap]) ?_ rfl ?_
  rotate_left
  · exact ⟨rfl, put3_below BW.out (by omega) _ _ _⟩
  have c3 := put3_blk (t := 30) (KR.out) (.int .u64 S) (.int .i64 H) (.slice A n cap)
  have c30 := c3.cell 0
  have c31 := c3.cell 1
  have c32 := c3.cell 2
  change (results _ _).run _ (put3 (wq) (w.heap.size + 1) (.int .u64 S) (.int .i64 H) (.slice A n cap)) = .ok _ (put3 (wq) (w.heap.size + 1) (.int .u64 S) (.int .i64 H) (.slice A n cap))
  generalize put3 (wq) (w.heap.size + 1) (.int .u64 S) (.int .i64 H) (.slice A n cap) = W5 at c30 c31 c32
  simp [results, Try.results11, go_sem, c30, c31, c32]
theorem told {w : World} {P : Prop} {e : Ending} {w' : World} (h : TellsB w P e w') (b : Bool) (hb : b = true ↔ P) : e = .returned (.bool b) ∧ Below w.heap.size w w' := by
  obtain ⟨c, h1, h2, h3⟩ := h
  exact ⟨by rw [h1, bool_ext (h2.trans hb.symm)], h3⟩
theorem awake_none (s : ByteArray) : ¬ hasB 8 2 (fun _ => false) (placeN 1 s 8) := fun h => by
  have := h.2 0 (by rw [kN_right (by decide)]; decide)
  cases this
theorem awake_set (s : ByteArray) : ∃ T : Nat, setB 8 2 (addB 1 2 8 (fun _ => false) s) = T ∧ 1 ≤ T ∧ T ≤ 2 := by
  refine ⟨_, rfl, ?_⟩
  have h0 : cntB (fun _ => false) 8 = 0 := cntB_none _ (fun i _ => rfl)
  obtain ⟨h1, h2⟩ := few_le 1 2 8 (fun _ => false) s
  have h3 : ¬ cntB (addB 1 2 8 (fun _ => false) s) 8 = cntB (fun _ => false) 8 := fun e => awake_none s ⟨by decide, (few_has _ _ _ _ _).1 e⟩
  have h4 : kN 8 2 = 2 := by rw [kN_right (by decide)]; decide
  have h5 : setB 8 2 (addB 1 2 8 (fun _ => false) s) = cntB (addB 1 2 8 (fun _ => false) s) 8 := if_pos (by decide)
  rw [h5]
  omega
set_option maxHeartbeats 3200000 in
theorem awake_any (w : World) : Calls Try.prog 12 #[] w fun e w' => e = .returned (.bool true) ∧ Below w.heap.size w w' := by
  go_enter Try.func12, Try.ntmps12
  go_wp2_with fail
  refine (new_ok 1 8 2 _ (by decide)).mono ?_
  rintro e u1 ⟨x1, rfl, f1, b1⟩
  have B1 : Hid (Below w.heap.size w u1) := b1
  have F1 : Hid (FilterAt u1 x1 1 2 8 (fun _ => false)) := f1
  obtain ⟨v1, rfl, A1, cap1, bb1, oo1, rfl, hx1, hx2, hx3⟩ := f1
  clear hx1 hx2 hx3 b1
  have BW : Hid (Below w.heap.size w (u1.alloc (.cells #[.int .u64 1, .int .i64 2, .slice A1 8 cap1] 25))) := bel_trans B1.out (bel_alloc _ _)
  have FW : Hid (FilterAt (u1.alloc (.cells #[.int .u64 1, .int .i64 2, .slice A1 8 cap1] 25)) (.agg #[.int .u64 1, .int .i64 2, .slice A1 8 cap1]) 1 2 8 (fun _ => false)) := F1.out.keep (keep_of_below (bel_alloc _ _))
  have KW : Hid (Blk (u1.alloc (.cells #[.int .u64 1, .int .i64 2, .slice A1 8 cap1] 25)) u1.heap.size 25 #[.int .u64 1, .int .i64 2, .slice A1 8 cap1]) := Blk.new _ _ _
  go_wp2_with fail
  refine (add_any _ _ 1 2 8 _ _ FW.out ⟨by omega, by omega⟩ (by decide) (by omega)).mono ?_
  rintro e u2 ⟨x2, rfl, f2, b2⟩
  have B2 : Hid (Below w.heap.size w u2) := bel_trans BW.out b2
  have FX : Hid (FilterAt u2 (.agg #[.int .u64 1, .int .i64 2, .slice A1 8 cap1]) 1 2 8 (fun _ => false)) := FW.out.keep (keep_of_below b2)
  have F2 : Hid (FilterAt u2 x2 1 2 8 (addB 1 2 8 (fun _ => false) ⟨#[97]⟩)) := f2
  have K2 : Hid (Blk u2 u1.heap.size 25 #[.int .u64 1, .int .i64 2, .slice A1 8 cap1]) := KW.out.since b2
  obtain ⟨v2, rfl, A2, cap2, bb2, oo2, rfl, hx1, hx2, hx3⟩ := f2
  clear hx1 hx2 hx3 b2 BW FW KW
  have BY : Hid (Below w.heap.size w (u2.alloc (.cells #[.int .u64 1, .int .i64 2, .slice A2 8 cap2] 25))) := bel_trans B2.out (bel_alloc _ _)
  have FY : Hid (FilterAt (u2.alloc (.cells #[.int .u64 1, .int .i64 2, .slice A2 8 cap2] 25)) (.agg #[.int .u64 1, .int .i64 2, .slice A1 8 cap1]) 1 2 8 (fun _ => false)) := FX.out.keep (keep_of_below (bel_alloc _ _))
  have GY : Hid (FilterAt (u2.alloc (.cells #[.int .u64 1, .int .i64 2, .slice A2 8 cap2] 25)) (.agg #[.int .u64 1, .int .i64 2, .slice A2 8 cap2]) 1 2 8 (addB 1 2 8 (fun _ => false) ⟨#[97]⟩)) := F2.out.keep (keep_of_below (bel_alloc _ _))
  have KY : Hid (Blk (u2.alloc (.cells #[.int .u64 1, .int .i64 2, .slice A2 8 cap2] 25)) u2.heap.size 25 #[.int .u64 1, .int .i64 2, .slice A2 8 cap2]) := Blk.new _ _ _
  have x0 : u2.cell? ⟨u1.heap.size, 0, none⟩ = some (.int .u64 1) := K2.out.cell 0
  have x1 : u2.cell? ⟨u1.heap.size, 1, none⟩ = some (.int .i64 2) := K2.out.cell 1
  have x2 : u2.cell? ⟨u1.heap.size, 2, none⟩ = some (.slice A1 8 cap1) := K2.out.cell 2
  have lt2 : u1.heap.size < u2.heap.size := K2.out.lt
  go_wp2_with fail
  refine (has_any _ _ 1 2 8 _ _ FY.out ⟨by omega, by omega⟩ (by decide)).mono ?_
  intro e u3 h3
  obtain ⟨rfl, b3⟩ := told h3 false ⟨fun h => (by cases h), fun h => absurd h (awake_none _)⟩
  have B3 : Hid (Below w.heap.size w u3) := bel_trans BY.out b3
  have F3 : Hid (FilterAt u3 (.agg #[.int .u64 1, .int .i64 2, .slice A2 8 cap2]) 1 2 8 (addB 1 2 8 (fun _ => false) ⟨#[97]⟩)) := GY.out.keep (keep_of_below b3)
  have K3 : Hid (Blk u3 u2.heap.size 25 #[.int .u64 1, .int .i64 2, .slice A2 8 cap2]) := KY.out.since b3
  clear h3 b3 FY GY KY BY x0 x1 x2 lt2
  have x0 : u3.cell? ⟨u2.heap.size, 0, none⟩ = some (.int .u64 1) := K3.out.cell 0
  have x1 : u3.cell? ⟨u2.heap.size, 1, none⟩ = some (.int .i64 2) := K3.out.cell 1
  have x2 : u3.cell? ⟨u2.heap.size, 2, none⟩ = some (.slice A2 8 cap2) := K3.out.cell 2
  go_wp2_with fail
  refine (has_any _ _ 1 2 8 _ _ F3.out ⟨by omega, by omega⟩ (by decide)).mono ?_
  intro e u4 h4
  obtain ⟨rfl, b4⟩ := told h4 true ⟨fun _ => ⟨by decide, has_added _ _ _ _ _⟩, fun _ => rfl⟩
  have B4 : Hid (Below w.heap.size w u4) := bel_trans B3.out b4
  have F4 : Hid (FilterAt u4 (.agg #[.int .u64 1, .int .i64 2, .slice A2 8 cap2]) 1 2 8 (addB 1 2 8 (fun _ => false) ⟨#[97]⟩)) := F3.out.keep (keep_of_below b4)
  have K4 : Hid (Blk u4 u2.heap.size 25 #[.int .u64 1, .int .i64 2, .slice A2 8 cap2]) := K3.out.since b4
  clear h4 b4 x0 x1 x2
  obtain ⟨T, hT, t1, t2⟩ := awake_set ⟨#[97]⟩
  have SC : Hid (∀ w1, Below u4.heap.size u4 w1 → Calls Try.prog 15 #[.agg #[.int .u64 1, .int .i64 2, .slice A2 8 cap2]] w1 fun e w' => e = .returned (.int .i64 (T : Int)) ∧ Below w1.heap.size w1 w') := fun w1 b1 => by
    rw [← hT]
    exact set_any w1 _ 1 2 8 _ (F4.out.keep (keep_of_below b1))
  clear hT
  have x0 : u4.cell? ⟨u2.heap.size, 0, none⟩ = some (.int .u64 1) := K4.out.cell 0
  have x1 : u4.cell? ⟨u2.heap.size, 1, none⟩ = some (.int .i64 2) := K4.out.cell 1
  have x2 : u4.cell? ⟨u2.heap.size, 2, none⟩ = some (.slice A2 8 cap2) := K4.out.cell 2
  go_wp2_with fail
  refine (SC.out _ (Below.refl _ _)).mono ?_
  rintro e u5 ⟨rfl, b5⟩
  have B5 : Hid (Below u4.heap.size u4 u5) := b5
  have K5 : Hid (Blk u5 u2.heap.size 25 #[.int .u64 1, .int .i64 2, .slice A2 8 cap2]) := K4.out.since b5
  clear b5 x0 x1 x2
  have x0 : u5.cell? ⟨u2.heap.size, 0, none⟩ = some (.int .u64 1) := K5.out.cell 0
  have x1 : u5.cell? ⟨u2.heap.size, 1, none⟩ = some (.int .i64 2) := K5.out.cell 1
  have x2 : u5.cell? ⟨u2.heap.size, 2, none⟩ = some (.slice A2 8 cap2) := K5.out.cell 2
  have g1 : (1 : Int) ≤ (T : Int) := by omega
  go_wp2_with fail
  refine (SC.out _ B5.out).mono ?_
  rintro e u6 ⟨rfl, b6⟩
  have g2 : (T : Int) ≤ 2 := by omega
  go_wp2_with fail
  go_ret
  exact ⟨by simp; try omega, bel_trans (bel_trans B4.out B5.out) b6⟩
set_option maxHeartbeats 1600000 in
theorem short_any (w : World) (v : Value) (n : Nat) (L : Nat → ByteArray) (h : StrsAt w v n L) (hn : n ≤ 9223372036854775807) (hl : ∀ i, i < n → (L i).size ≤ 9223372036854775807) :
    Calls Try.prog 25 #[v, .int .i64 30] w (TellsB w (n ≤ 30 ∧ ∀ i, i < n → (L i).size ≤ 100)) := by
  obtain ⟨A, cap, b, o, rfl, hx1, q3, q4⟩ := h
  have Q3 : Hid (0 < n → A = some ⟨b, o, none⟩) := q3
  have Q4 : Hid (∀ i, i < n → w.cell? ⟨b, o + i, none⟩ = some (.string (L i))) := q4
  have HL : Hid (∀ i, i < n → (L i).size ≤ 9223372036854775807) := hl
  clear hx1 q3 q4 hl
  by_cases h30 : n ≤ 30
  rotate_left
  · have HN : Hid (¬ n ≤ 30) := h30
    have q : (30 : Int) < (n : Int) := by omega
    clear h30
    go_enter Try.func25, Try.ntmps25
    go_wp2_with fail
    go_ret
    exact ⟨false, rfl, ⟨fun h => (by cases h), fun h => absurd h.1 HN.out⟩, Below.refl _ _⟩
  have HN : Hid (n ≤ 30) := h30
  have q : ¬ (30 : Int) < (n : Int) := by omega
  go_enter Try.func25, Try.ntmps25
  go_wp2_with fail
  go_loop [5] (fun i => ∃ k : Nat, (k ≤ n ∧ ∀ j, j < k → (L j).size ≤ 100) ∧ i = .int .i64 (k : Int)) (fun i => n - (intOf i).toNat)
  case atStart => exact ⟨0, ⟨by omega, fun j hj => by omega⟩, rfl⟩
  case round =>
    obtain ⟨k, ⟨hk, ha⟩, rfl⟩ := hrel
    have HA : Hid (∀ j, j < k → (L j).size ≤ 100) := ha
    clear ha
    by_cases hlt : k < n
    · obtain rfl := Q3.out (by omega)
      have c1 := Q4.out k hlt
      have hz := HL.out k hlt
      have b1 : (k : Int) < (n : Int) := by omega
      by_cases hB : (L k).size ≤ 100
      · have HB : Hid ((L k).size ≤ 100) := hB
        have q2 : ¬ (100 : Int) < ((L k).size : Int) := by omega
        generalize hs : L k = s at c1 hz hB q2
        clear hs
        go_wp2_with fail
        go_round
        case rel =>
          refine ⟨k + 1, ⟨by omega, fun j hj => ?_⟩, by go_num⟩
          by_cases e : j = k
          · rw [e]; exact HB.out
          · exact HA.out j (by omega)
        case measure => simp [intOf]; omega
      · have HB : Hid (¬ (L k).size ≤ 100) := hB
        have q2 : (100 : Int) < ((L k).size : Int) := by omega
        generalize hs : L k = s at c1 hz hB q2
        clear hs hB
        go_wp2_with fail
        go_ret
        first
          | exact ⟨false, rfl, ⟨fun h => (by cases h), fun h => absurd (h.2 k hlt) HB.out⟩, Below.refl _ _⟩
          | exact ⟨false, rfl, ⟨fun h => (by cases h), fun h => absurd (h k hlt) HB.out⟩, Below.refl _ _⟩
    · have e : k = n := by omega
      have HE : Hid (k = n) := e
      have b1 : ¬ (k : Int) < (n : Int) := by omega
      clear e hlt hk
      go_wp2_with fail
      go_ret
      first
        | exact ⟨true, rfl, ⟨fun _ => ⟨HN.out, fun i hi => HA.out i (by rw [HE.out]; exact hi)⟩, fun _ => rfl⟩, Below.refl _ _⟩
        | exact ⟨true, rfl, ⟨fun _ i hi => HA.out i (by rw [HE.out]; exact hi), fun _ => rfl⟩, Below.refl _ _⟩
/-- Bits stand where a box of other values is written. -/
theorem bools_put3 {w : World} {X : Nat} {t : TypeId} {S H : Int} {A : Option Addr} {m cap : Nat} {v : Value} {n : Nat} {B : Nat → Bool} (hX : Blk w X t #[.int .u64 S, .int .i64 H, .slice A m cap]) (h : BoolsAt w v n B) (a b c : Value) : BoolsAt (put3 w X a b c) v n B := by
  obtain ⟨A', cap', g, o, h1, h2, h3, h4⟩ := h
  refine ⟨A', cap', g, o, h1, h2, h3, fun i hi => ?_⟩
  have hg : g ≠ X := fun e => by
    subst e
    have c := h4 i hi
    rw [hX.cell (o + i)] at c
    match o + i, c with
    | 0, c => simp at c
    | 1, c => simp at c
    | 2, c => simp at c
    | k + 3, c => simp at c
  unfold put3
  rw [World.cell?_setCell_other _ _ _ _ (fun e => hg (congrArg Addr.block e).symm), World.cell?_setCell_other _ _ _ _ (fun e => hg (congrArg Addr.block e).symm), World.cell?_setCell_other _ _ _ _ (fun e => hg (congrArg Addr.block e).symm)]
  exact h4 i hi
/-- What the loop of adds keeps. -/
structure AddsIn (w wr : World) (S H : Int) (A : Option Addr) (cap n : Nat) (B : Nat → Bool) : Prop where
  since : Below w.heap.size w wr
  box : Blk wr w.heap.size 25 #[.int .u64 S, .int .i64 H, .slice A n cap]
  res : Blk wr (w.heap.size + 1) 25 #[.int .u64 0, .int .i64 0, .slice none 0 0]
  bits : BoolsAt wr (.slice A n cap) n B
theorem AddsIn.next {w wr w1 : World} {S H : Int} {A A' : Option Addr} {cap cap' n : Nat} {B C : Nat → Bool} (h : AddsIn w wr S H A cap n B) (b : Below wr.heap.size wr w1) (k : BoolsAt w1 (.slice A' n cap') n C) :
    AddsIn w (put3 w1 w.heap.size (.int .u64 S) (.int .i64 H) (.slice A' n cap')) S H A' cap' n C :=
  ⟨put3_below (bel_trans h.since b) (Nat.le_refl _) _ _ _, put3_blk (h.box.since b) _ _ _, put3_other (h.res.since b) (by omega) _ _ _, bools_put3 (h.box.since b) k _ _ _⟩
set_option maxHeartbeats 3200000 in
theorem adds_any (w : World) (x v : Value) (S H : Int) (n m : Nat) (B : Nat → Bool) (L : Nat → ByteArray) (h : FilterAt w x S H n B) (k : StrsAt w v m L) (uS : U S) (hn : n ≤ 100000) (hm : m ≤ 30) (hl : ∀ i, i < m → (L i).size ≤ 100) :
    Calls Try.prog 26 #[x, v] w (Gave w S H n (addsB S H n B L m)) := by
  obtain ⟨vf, rfl, hb⟩ := h
  obtain ⟨A0, cap0, b0, o0, rfl, hx1, hx2, hx3⟩ := id hb
  clear hx1 hx2 hx3
  obtain ⟨A', cap', b', o', rfl, hx1, q3, q4⟩ := k
  have Q3 : Hid (0 < m → A' = some ⟨b', o', none⟩) := q3
  have Q4 : Hid (∀ i, i < m → w.cell? ⟨b', o' + i, none⟩ = some (.string (L i))) := q4
  have HL : Hid (∀ i, i < m → (L i).size ≤ 100) := hl
  clear hx1 q3 q4 hl
  have AI : Hid (AddsIn w ((w.alloc (.cells #[.int .u64 S, .int .i64 H, .slice A0 n cap0] 25)).alloc (.cells #[.int .u64 0, .int .i64 0, .slice none 0 0] 25)) S H A0 cap0 n (addsB S H n B L 0)) := by
    have e := Blk.new (w.alloc (.cells #[.int .u64 S, .int .i64 H, .slice A0 n cap0] 25)) 25 #[.int .u64 0, .int .i64 0, .slice none 0 0]
    simp only [World.size_alloc] at e
    have b1 : Below w.heap.size w ((w.alloc (.cells #[.int .u64 S, .int .i64 H, .slice A0 n cap0] 25)).alloc (.cells #[.int .u64 0, .int .i64 0, .slice none 0 0] 25)) := (bel_alloc _ _).alloc (by simp) _
    exact ⟨b1, (Blk.new _ _ _).alloc _, e, hb.keep (keep_of_below b1)⟩
  clear hb
  go_enter Try.func26, Try.ntmps26
  go_wp2_with fail
  generalize (w.alloc (.cells #[.int .u64 S, .int .i64 H, .slice A0 n cap0] 25)).alloc (.cells #[.int .u64 0, .int .i64 0, .slice none 0 0] 25) = u1 at AI ⊢
  go_loopg [9] m (fun gk i wr => ∃ (k : Nat) (A : Option Addr) (cap : Nat), (gk = m - k ∧ k ≤ m ∧ AddsIn w wr S H A cap n (addsB S H n B L k)) ∧ i = .int .i64 (k : Int))
  case atStart => exact ⟨0, A0, cap0, ⟨rfl, by omega, AI.out⟩, rfl⟩
  case round =>
    clear AI
    obtain ⟨k, A, cap, ⟨hg, hk, hA⟩, rfl⟩ := hrel
    have HK : Hid (gk = m - k ∧ AddsIn w wr S H A cap n (addsB S H n B L k)) := ⟨hg, hA⟩
    have x0 : wr.cell? ⟨w.heap.size, 0, none⟩ = some (.int .u64 S) := hA.box.cell 0
    have x1 : wr.cell? ⟨w.heap.size, 1, none⟩ = some (.int .i64 H) := hA.box.cell 1
    have x2 : wr.cell? ⟨w.heap.size, 2, none⟩ = some (.slice A n cap) := hA.box.cell 2
    by_cases hlt : k < m
    · obtain rfl := Q3.out (by omega)
      have c1 : wr.cell? ⟨b', o' + k, none⟩ = some (.string (L k)) := keep_of_below hA.since _ _ (Q4.out k hlt)
      have hb1 : (k : Int) < (m : Int) := by omega
      have AC : Hid (Calls Try.prog 16 #[.agg #[.int .u64 S, .int .i64 H, .slice A n cap], .string (L k)] wr (Gave wr S H n (addsB S H n B L (k + 1)))) := add_any wr _ S H n _ (L k) ⟨_, rfl, hA.bits⟩ uS (by have := HL.out k hlt; omega) hn
      generalize L k = s at c1 AC
      clear hg hA
      go_wp2_with fail
      refine AC.out.mono ?_
      rintro e u2 ⟨x2, rfl, f2, b2⟩
      obtain ⟨v2, rfl, hb2⟩ := f2
      obtain ⟨A2, cap2, bb2, oo2, rfl, hx1, hx2, hx3⟩ := id hb2
      clear hx1 hx2 hx3
      have NX : Hid (AddsIn w (put3 u2 w.heap.size (.int .u64 S) (.int .i64 H) (.slice A2 n cap2)) S H A2 cap2 n (addsB S H n B L (k + 1))) := HK.out.2.next b2 hb2
      have K2 := HK.out.2.box.since b2
      have y0 : u2.cell? ⟨w.heap.size, 0, none⟩ = some (.int .u64 S) := K2.cell 0
      have y1 : u2.cell? ⟨w.heap.size, 1, none⟩ = some (.int .i64 H) := K2.cell 1
      have y2 : u2.cell? ⟨w.heap.size, 2, none⟩ = some (.slice A n cap) := K2.cell 2
      have z0 := K2.frozen 0
      have z1 := K2.frozen 1
      have z2 := K2.frozen 2
      clear K2 hb2 b2 AC
      go_wp2_with fail
      go_roundg (m - (k + 1))
      case measure => have := HK.out.1; omega
      case rel => exact ⟨k + 1, A2, cap2, ⟨rfl, by omega, NX.out⟩, by go_num⟩
    · have e : k = m := by omega
      have HE : Hid (k = m) := e
      have hb1 : ¬ (k : Int) < (m : Int) := by omega
      have r0 : wr.cell? ⟨w.heap.size + 1, 0, none⟩ = some (.int .u64 0) := hA.res.cell 0
      have r1 : wr.cell? ⟨w.heap.size + 1, 1, none⟩ = some (.int .i64 0) := hA.res.cell 1
      have r2 : wr.cell? ⟨w.heap.size + 1, 2, none⟩ = some (.slice none 0 0) := hA.res.cell 2
      have z0 := hA.res.frozen 0
      have z1 := hA.res.frozen 1
      have z2 := hA.res.frozen 2
      clear e hlt hg hA hk
      go_wp2_with fail
      have DF : FilterAt (put3 wr (w.heap.size + 1) (.int .u64 S) (.int .i64 H) (.slice A n cap)) (.agg #[.int .u64 S, .int .i64 H, .slice A n cap]) S H n (addsB S H n B L m) := by
        rw [← HE.out]
        exact ⟨_, rfl, bools_put3 HK.out.2.res HK.out.2.bits _ _ _⟩
      refine bodyPost_ret (v := .agg #[.int .u64 S, .int .i64 H, .slice A n cap]) ?_ rfl ?_
      rotate_left
      · exact ⟨_, rfl, DF, put3_below HK.out.2.since (by omega) _ _ _⟩
      have c3 := put3_blk (t := 25) (HK.out.2.res) (.int .u64 S) (.int .i64 H) (.slice A n cap)
      have c30 := c3.cell 0
      have c31 := c3.cell 1
      have c32 := c3.cell 2
      change (results _ _).run _ (put3 (wr) (w.heap.size + 1) (.int .u64 S) (.int .i64 H) (.slice A n cap)) = .ok _ (put3 (wr) (w.heap.size + 1) (.int .u64 S) (.int .i64 H) (.slice A n cap))
      generalize put3 (wr) (w.heap.size + 1) (.int .u64 S) (.int .i64 H) (.slice A n cap) = W5 at c30 c31 c32
      simp [results, Try.results26, go_sem, c30, c31, c32]
end Go.Proofs.Ytbnjicbmainopaa
