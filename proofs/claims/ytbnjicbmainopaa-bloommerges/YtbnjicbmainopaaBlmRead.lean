
/-
  Has and Set of layer 10 (bloom): what they answer.
-/
import Derived.Test.YtbnjicbmainopaaBlmMem
namespace Go.Proofs.Ytbnjicbmainopaa
open Go.RowKit Fm Bl L2 Go.Deep
set_option linter.unusedVariables false

/-- A bool that tells whether a filter has a key. -/
def hasB (n : Nat) (H : Int) (B : Nat → Bool) (p : Nat → Nat) : Prop := fitsB n H = true ∧ HasN B p (kN n H)
set_option maxHeartbeats 1600000 in
theorem has_any (w : World) (x : Value) (S H : Int) (n : Nat) (B : Nat → Bool) (s : ByteArray) (h : FilterAt w x S H n B) (uS : U S) (hs : s.size ≤ 100000) :
    Calls Try.prog 19 #[x, .string s] w (TellsB w (hasB n H B (placeN S s n))) := by
  obtain ⟨v, rfl, hb⟩ := h
  have RC : Hid (∀ w1, Below w.heap.size w w1 → Calls Try.prog 14 #[.agg #[.int .u64 S, .int .i64 H, v]] w1 fun e w' => e = .returned (.bool (fitsB n H)) ∧ Below w1.heap.size w1 w') := fun w1 b1 => right_any w1 _ S H n B ⟨v, rfl, hb.keep (keep_of_below b1)⟩
  have PC : Hid (∀ w1, Below w.heap.size w w1 → Calls Try.prog 17 #[.agg #[.int .u64 S, .int .i64 H, v], .string s] w1 (GavePlaces w1 (kN n H) (placeN S s n))) := fun w1 b1 => places_any w1 _ S H n B s ⟨v, rfl, hb.keep (keep_of_below b1)⟩ uS hs
  obtain ⟨A, cap, b, o, rfl, _, q3, q4⟩ := hb
  have Q3 : Hid (0 < n → A = some ⟨b, o, none⟩) := q3
  have Q4 : Hid (∀ i, i < n → w.cell? ⟨b, o + i, none⟩ = some (.bool (B i))) := q4
  clear q3 q4
  have BX : Hid (Below w.heap.size w (w.alloc (.cells #[.int .u64 S, .int .i64 H, .slice A n cap] 25))) := bel_alloc _ _
  have KX : Hid (Blk (w.alloc (.cells #[.int .u64 S, .int .i64 H, .slice A n cap] 25)) w.heap.size 25 #[.int .u64 S, .int .i64 H, .slice A n cap]) := Blk.new _ _ _
  by_cases hr : fitsB n H = true
  rotate_left
  · have hr' : fitsB n H = false := by simpa using hr
    clear hr
    have E : Hid (fitsB n H = false) := hr'
    go_enter Try.func19, Try.ntmps19
    go_wp2_with fail
    refine (RC.out _ BX.out).mono ?_
    rintro e u1 ⟨rfl, b1⟩
    go_wp2_with fail
    go_ret
    exact ⟨false, rfl, ⟨fun h => (by cases h), fun h => by have := h.1; rw [E.out] at this; cases this⟩, bel_trans BX.out b1⟩
  have ER : Hid (fitsB n H = true) := hr
  go_enter Try.func19, Try.ntmps19
  go_wp2_with fail
  refine (RC.out _ BX.out).mono ?_
  rintro e u1 ⟨rfl, b1⟩
  have B1 : Hid (Below w.heap.size w u1) := bel_trans BX.out b1
  have K1 : Hid (Blk u1 w.heap.size 25 #[.int .u64 S, .int .i64 H, .slice A n cap]) := KX.out.since b1
  have x0 : u1.cell? ⟨w.heap.size, 0, none⟩ = some (.int .u64 S) := K1.out.cell 0
  have x1 : u1.cell? ⟨w.heap.size, 1, none⟩ = some (.int .i64 H) := K1.out.cell 1
  have x2 : u1.cell? ⟨w.heap.size, 2, none⟩ = some (.slice A n cap) := K1.out.cell 2
  clear BX KX RC
  go_wp2_with fail
  refine (PC.out _ B1.out).mono ?_
  rintro e u2 ⟨vp, rfl, hp, b2⟩
  have B2 : Hid (Below w.heap.size w u2) := bel_trans B1.out b2
  have K2 : Hid (Blk u2 w.heap.size 25 #[.int .u64 S, .int .i64 H, .slice A n cap]) := K1.out.since b2
  obtain ⟨Ap, capp, bp, op, rfl, _, p3, p4⟩ := hp
  obtain ⟨K, hK⟩ : ∃ K, K = kN n H := ⟨_, rfl⟩
  rw [← hK] at p3 p4 ⊢
  have HKN : Hid (K = kN n H) := hK
  have k7 : K ≤ 7 := by rw [hK]; exact kN_le n H
  have P3 : Hid (0 < K → Ap = some ⟨bp, op, none⟩) := p3
  have P4 : Hid (∀ i, i < K → u2.cell? ⟨bp, op + i, none⟩ = some (.int .i64 (placeN S s n i : Int))) := p4
  have x2 : u2.cell? ⟨w.heap.size, 2, none⟩ = some (.slice A n cap) := K2.out.cell 2
  clear b1 b2 K1 PC p3 p4 hK x0 x1 hr
  go_wp2_with fail
  go_loop [14] (fun i => ∃ k : Nat, (k ≤ K ∧ ∀ j, j < k → B (placeN S s n j) = true) ∧ i = .int .i64 (k : Int)) (fun i => K - (intOf i).toNat)
  case atStart => exact ⟨0, ⟨by omega, fun j hj => by omega⟩, rfl⟩
  case round =>
    obtain ⟨k, ⟨hk, ha⟩, rfl⟩ := hrel
    have HA : Hid (∀ j, j < k → B (placeN S s n j) = true) := ha
    clear ha
    by_cases hlt : k < K
    · obtain rfl := P3.out (by omega)
      have n1 : 1 ≤ n := (kN_pos (show k < kN n H by rw [← HKN.out]; exact hlt)).1
      have ck := P4.out k hlt
      obtain ⟨P, hPP⟩ : ∃ P, P = placeN S s n k := ⟨_, rfl⟩
      have pl : P < n := by rw [hPP]; exact placeN_lt S s n k n1
      have HP : Hid (P = placeN S s n k) := hPP
      rw [← hPP] at ck
      obtain rfl := Q3.out (by omega)
      have cp := keep_of_below B2.out _ _ (Q4.out P pl)
      have hb0 : (P : Int) < (n : Int) := by omega
      have hb1 : (k : Int) < (K : Int) := by omega
      clear hPP
      by_cases hB : B P = true
      · rw [hB] at cp
        have HB : Hid (B P = true) := hB
        clear hB
        go_wp2_with fail
        go_round
        case rel =>
          refine ⟨k + 1, ⟨by omega, fun j hj => ?_⟩, by go_num⟩
          by_cases e : j = k
          · rw [e, ← HP.out]; exact HB.out
          · exact HA.out j (by omega)
        case measure => simp [intOf]; omega
      · have hB' : B P = false := by simpa using hB
        rw [hB'] at cp
        have HB : Hid (B P = false) := hB'
        clear hB hB'
        go_wp2_with fail
        go_ret
        refine ⟨false, rfl, ⟨fun h => (by cases h), fun h => ?_⟩, B2.out⟩
        have := h.2 k (by rw [← HKN.out]; exact hlt)
        rw [← HP.out, HB.out] at this
        cases this
    · have hb1 : ¬ (k : Int) < (K : Int) := by omega
      go_wp2_with fail
      go_ret
      exact ⟨true, rfl, ⟨fun _ => ⟨ER.out, fun i hi => HA.out i (by rw [← HKN.out] at hi; omega)⟩, fun _ => rfl⟩, B2.out⟩
def setB (n : Nat) (H : Int) (B : Nat → Bool) : Nat := if fitsB n H = true then cntB B n else 0
set_option maxHeartbeats 1600000 in
theorem set_any (w : World) (x : Value) (S H : Int) (n : Nat) (B : Nat → Bool) (h : FilterAt w x S H n B) :
    Calls Try.prog 15 #[x] w fun e w' => e = .returned (.int .i64 (setB n H B : Int)) ∧ Below w.heap.size w w' := by
  obtain ⟨v, rfl, hb⟩ := h
  have RC : Hid (∀ w1, Below w.heap.size w w1 → Calls Try.prog 14 #[.agg #[.int .u64 S, .int .i64 H, v]] w1 fun e w' => e = .returned (.bool (fitsB n H)) ∧ Below w1.heap.size w1 w') := fun w1 b1 => right_any w1 _ S H n B ⟨v, rfl, hb.keep (keep_of_below b1)⟩
  obtain ⟨A, cap, b, o, rfl, _, q3, q4⟩ := hb
  have Q3 : Hid (0 < n → A = some ⟨b, o, none⟩) := q3
  have Q4 : Hid (∀ i, i < n → w.cell? ⟨b, o + i, none⟩ = some (.bool (B i))) := q4
  clear q3 q4
  have BX : Hid (Below w.heap.size w (w.alloc (.cells #[.int .u64 S, .int .i64 H, .slice A n cap] 25))) := bel_alloc _ _
  have KX : Hid (Blk (w.alloc (.cells #[.int .u64 S, .int .i64 H, .slice A n cap] 25)) w.heap.size 25 #[.int .u64 S, .int .i64 H, .slice A n cap]) := Blk.new _ _ _
  by_cases hr : fitsB n H = true
  rotate_left
  · have hr' : fitsB n H = false := by simpa using hr
    have E : Hid (setB n H B = 0) := if_neg hr
    clear hr
    go_enter Try.func15, Try.ntmps15
    go_wp2_with fail
    refine (RC.out _ BX.out).mono ?_
    rintro e u1 ⟨rfl, b1⟩
    go_wp2_with fail
    go_ret
    exact ⟨by rw [E.out]; rfl, bel_trans BX.out b1⟩
  have E : Hid (setB n H B = cntB B n) := if_pos hr
  have hR := (fitsB_iff _ _).1 hr
  have n2 : n ≤ 256 := by omega
  clear hR
  go_enter Try.func15, Try.ntmps15
  go_wp2_with fail
  refine (RC.out _ BX.out).mono ?_
  rintro e u1 ⟨rfl, b1⟩
  have B1 : Hid (Below w.heap.size w u1) := bel_trans BX.out b1
  have K1 : Hid (Blk u1 w.heap.size 25 #[.int .u64 S, .int .i64 H, .slice A n cap]) := KX.out.since b1
  have x2 : u1.cell? ⟨w.heap.size, 2, none⟩ = some (.slice A n cap) := K1.out.cell 2
  clear BX KX RC b1
  go_wp2_with fail
  go_loop [3, 12] (fun x y => ∃ k T : Nat, (k ≤ n ∧ T = cntB B k) ∧ x = .int .i64 (T : Int) ∧ y = .int .i64 (k : Int)) (fun _ y => n - (intOf y).toNat)
  case atStart => exact ⟨0, 0, ⟨by omega, rfl⟩, rfl, rfl⟩
  case round =>
    obtain ⟨k, T, ⟨hk, hT⟩, rfl, rfl⟩ := hrel
    have HT : Hid (T = cntB B k) := hT
    have t1 : T ≤ 256 := by have := cntB_le B k; omega
    clear hT
    by_cases hlt : k < n
    · obtain rfl := Q3.out (by omega)
      have cp := keep_of_below B1.out _ _ (Q4.out k hlt)
      have hb1 : (k : Int) < (n : Int) := by omega
      by_cases hB : B k = true
      · rw [hB] at cp
        have HB : Hid (B k = true) := hB
        clear hB
        go_wp2_with fail
        go_round
        case rel => exact ⟨k + 1, T + 1, ⟨by omega, by rw [cntB, HB.out, HT.out]; rfl⟩, by go_num, by go_num⟩
        case measure => simp [intOf]; omega
      · have hB' : B k = false := by simpa using hB
        rw [hB'] at cp
        have HB : Hid (B k = false) := hB'
        clear hB hB'
        go_wp2_with fail
        go_round
        case rel => exact ⟨k + 1, T, ⟨by omega, by rw [cntB, HB.out, HT.out]; rfl⟩, rfl, by go_num⟩
        case measure => simp [intOf]; omega
    · have e : k = n := by omega
      have HE : Hid (k = n) := e
      have hb1 : ¬ (k : Int) < (n : Int) := by omega
      clear e hlt hk
      go_wp2_with fail
      go_ret
      exact ⟨by rw [E.out, ← HE.out, ← HT.out]; rfl, B1.out⟩
end Go.Proofs.Ytbnjicbmainopaa
