
/-
  Right, Place, alike, unset, estimate and Estimate of layer 13 (bitmap): what they answer.
-/
import Derived.Test.YtkfhofgmjhnknaaDoorBtmMem
import Derived.BigQuiet
namespace Go.Proofs.YtkfhofgmjhnknaaDoor
open Go.RowKit Fm Bl Bm L2 Go.Deep
set_option linter.unusedVariables false

set_option maxHeartbeats 1600000 in
theorem mright_any (w : World) (x : Value) (S : Int) (R : Nat) (L : Nat → Nat) (Z : Nat → Nat → Bool) (h : MpAt w x S R L Z) (hR : R ≤ 1000) (hL : ∀ i, i < R → L i ≤ 1000) :
    Calls Tryd.prog 13 #[x] w (TellsB w (RightM R L)) := by
  obtain ⟨v, rfl, hv⟩ := h
  obtain ⟨A, cap, b, o, rfl, hc, hr⟩ := hv.read
  have BX : Hid (Below w.heap.size w (w.alloc (.cells #[.int .u64 S, .slice A R cap] 25))) := bel_alloc _ _
  have KX : Hid (Blk (w.alloc (.cells #[.int .u64 S, .slice A R cap] 25)) w.heap.size 25 #[.int .u64 S, .slice A R cap]) := Blk.new _ _ _
  have RC : Hid (RowsCells (w.alloc (.cells #[.int .u64 S, .slice A R cap] 25)) A R b o L Z) := RowsCells.keep hr (keep_of_below BX.out)
  have HL : Hid (∀ i, i < R → L i ≤ 1000) := hL
  clear hv hr hL
  by_cases h0 : R = 0
  · subst h0
    clear RC HL KX
    go_enter Tryd.func13, Tryd.ntmps13
    go_wp2_with fail
    go_quiet (fail)
    go_wp2_with fail
    go_ret
    exact ⟨false, rfl, ⟨fun h => (by cases h), fun h => by have := h.1; omega⟩, below_drewN BX.out nq⟩
  have hne : ((R : Int) == 0) = false := by simpa using h0
  have hix : (0 : Int) < R := by omega
  have hin : 0 < R := by omega
  clear h0
  obtain ⟨rfl, A0, cap0, b0, o0, c0, l0, f0, g0⟩ := RC.out 0 hin
  rw [Nat.add_zero] at c0
  clear l0 f0 g0
  obtain ⟨n, hn⟩ : ∃ n, n = L 0 := ⟨_, rfl⟩
  rw [← hn] at c0
  have HN : Hid (n = L 0) := hn
  have C0 : Hid (w.cell? ⟨b, o, none⟩ = w.cell? ⟨b, o, none⟩) := rfl
  have n1 : n ≤ 1000 := by rw [hn]; exact HL.out 0 hin
  clear hn C0
  by_cases hf : fitsM R n = true
  rotate_left
  · have hf' : fitsM R n = false := by simpa using hf
    have HF : Hid (fitsM R n = false) := hf'
    clear hf RC
    go_enter Tryd.func13, Tryd.ntmps13
    go_wp2_with fail
    generalize w.alloc (.cells #[.int .u64 S, .slice (some ⟨b, o, none⟩) R cap] 25) = W at BX KX c0 ⊢
    have x2 : W.cell? ⟨w.heap.size, 1, none⟩ = some (.slice (some ⟨b, o, none⟩) R cap) := KX.out.cell 1
    go_quiet ((go_at_call 24; exact Calls.quiet_of_same (mfits_any (R : Int) (n : Int) _)))
    go_wp2_with fail
    go_ret
    refine ⟨false, rfl, ⟨fun h => (by cases h), fun h => ?_⟩, below_drewN BX.out nq⟩
    have : fitsM R n = true := by rw [fitsM_iff, HN.out]; obtain ⟨q1, q2, q3, q4, _⟩ := h; omega
    rw [HF.out] at this; cases this
  have hR := (fitsM_iff _ _).1 hf
  have HRR : Hid (1 ≤ R ∧ R ≤ 16 ∧ 1 ≤ n ∧ n ≤ 256) := by refine ⟨?_, ?_, ?_, ?_⟩ <;> omega
  have n0 : 1 ≤ n := by omega
  clear hR
  go_enter Tryd.func13, Tryd.ntmps13
  go_wp2_with fail
  generalize w.alloc (.cells #[.int .u64 S, .slice (some ⟨b, o, none⟩) R cap] 25) = W at BX KX c0 RC ⊢
  have x2 : W.cell? ⟨w.heap.size, 1, none⟩ = some (.slice (some ⟨b, o, none⟩) R cap) := KX.out.cell 1
  go_quiet ((go_at_call 24; exact Calls.quiet_of_same (mfits_any (R : Int) (n : Int) _)))
  clear hf
  have BW : Hid (Below w.heap.size w (W.drewN nq)) := below_drewN BX.out nq
  have KW : Hid (Blk (W.drewN nq) w.heap.size 25 #[.int .u64 S, .slice (some ⟨b, o, none⟩) R cap]) := KX.out
  have RW : Hid (RowsCells (W.drewN nq) (some ⟨b, o, none⟩) R b o L Z) := RC.out
  have c0 : (W.drewN nq).cell? ⟨b, o, none⟩ = some (.slice A0 n cap0) := c0
  clear x2 RC KX BX
  generalize W.drewN nq = W2 at *
  have x2 : W2.cell? ⟨w.heap.size, 1, none⟩ = some (.slice (some ⟨b, o, none⟩) R cap) := KW.out.cell 1
  go_wp2_with fail
  go_loop [24] (fun i => ∃ k : Nat, (k ≤ R ∧ ∀ r, r < k → L r = L 0) ∧ i = .int .i64 (k : Int)) (fun i => R - (intOf i).toNat)
  case atStart => exact ⟨0, ⟨by omega, fun r hr => by omega⟩, rfl⟩
  case round =>
    obtain ⟨k, hk, rfl⟩ := hrel
    have HK : Hid (k ≤ R ∧ ∀ r, r < k → L r = L 0) := hk
    have hkR := hk.1
    clear hk
    by_cases hz : k < R
    · obtain ⟨_, A', cap', b', o', ck, lk, fk, gk⟩ := RW.out k hz
      have bk : (k : Int) < (R : Int) := by omega
      have lk1 := HL.out k hz
      obtain ⟨m, hm⟩ : ∃ m, m = L k := ⟨_, rfl⟩
      rw [← hm] at ck lk1
      have HM : Hid (m = L k) := hm
      clear lk fk gk hm
      by_cases e1 : m = n
      rotate_left
      · have e2 : ((m : Int) != (n : Int)) = true := by simp; omega
        have HE : Hid (m ≠ n) := e1
        clear e1
        go_wp2_with fail
        go_ret
        exact ⟨false, rfl, ⟨fun h => (by cases h), fun h => absurd (h.2.2.2.2 k hz) (by rw [← HM.out, ← HN.out]; exact HE.out)⟩, BW.out⟩
      · have e2 : ((m : Int) != (n : Int)) = false := by simp; omega
        have HE : Hid (m = n) := e1
        clear e1
        go_wp2_with fail
        go_round
        case rel =>
          refine ⟨k + 1, ⟨by omega, fun r hr => ?_⟩, by go_num⟩
          by_cases e : r = k
          · rw [e, ← HN.out, ← HM.out]; exact HE.out
          · exact HK.out.2 r (by omega)
        case measure => simp [intOf]; omega
    · go_wp2_with fail
      go_ret
      refine ⟨true, rfl, ⟨fun _ => ?_, fun _ => rfl⟩, BW.out⟩
      obtain ⟨q1, q2, q4, q5⟩ := HRR.out
      rw [HN.out] at q4 q5
      exact ⟨q1, q2, q4, q5, fun r hr => HK.out.2 r (by omega)⟩
theorem mright_yes {w : World} {x : Value} {S : Int} {R : Nat} {L : Nat → Nat} {Z : Nat → Nat → Bool} (h : MpAt w x S R L Z) (r : RightM R L) :
    Calls Tryd.prog 13 #[x] w fun e w' => e = .returned (.bool true) ∧ Below w.heap.size w w' := by
  have hl : ∀ i, i < R → L i ≤ 1000 := fun i hi => by have := r.2.2.2.2 i hi; have := r.2.2.2.1; omega
  refine (mright_any w x S R L Z h (by have := r.2.1; omega) hl).mono ?_
  rintro e w' ⟨B, rfl, h1, h2⟩
  exact ⟨by rw [h1.2 r], h2⟩
theorem mright_no {w : World} {x : Value} {S : Int} {R : Nat} {L : Nat → Nat} {Z : Nat → Nat → Bool} (h : MpAt w x S R L Z) (hR : R ≤ 1000) (hL : ∀ i, i < R → L i ≤ 1000) (r : ¬ RightM R L) :
    Calls Tryd.prog 13 #[x] w fun e w' => e = .returned (.bool false) ∧ Below w.heap.size w w' := by
  refine (mright_any w x S R L Z h hR hL).mono ?_
  rintro e w' ⟨B, rfl, h1, h2⟩
  refine ⟨?_, h2⟩
  cases B with
  | false => rfl
  | true => exact absurd (h1.1 rfl) r
set_option maxHeartbeats 1600000 in
theorem mplace_bad (w : World) (x : Value) (S : Int) (R : Nat) (L : Nat → Nat) (Z : Nat → Nat → Bool) (s : ByteArray) (h : MpAt w x S R L Z) (hR : R ≤ 1000) (hL : ∀ i, i < R → L i ≤ 1000) (r : ¬ RightM R L) :
    Calls Tryd.prog 16 #[x, .string s] w fun e w' => e = .returned (.tuple #[.int .i64 0, .int .i64 0]) ∧ Below w.heap.size w w' := by
  obtain ⟨v, rfl, hv⟩ := h
  have RC : Hid (∀ w1, Below w.heap.size w w1 → Calls Tryd.prog 13 #[.agg #[.int .u64 S, v]] w1 fun e w' => e = .returned (.bool false) ∧ Below w1.heap.size w1 w') := fun w1 b1 => mright_no ⟨v, rfl, hv.keep (keep_of_below b1)⟩ hR hL r
  obtain ⟨A, cap, b, o, rfl, hc, hr⟩ := hv.read
  have BX : Hid (Below w.heap.size w (w.alloc (.cells #[.int .u64 S, .slice A R cap] 25))) := bel_alloc _ _
  clear hv hr hL r
  go_enter Tryd.func16, Tryd.ntmps16
  go_wp2_with fail
  refine (RC.out _ BX.out).mono ?_
  rintro e u1 ⟨rfl, b1⟩
  go_wp2_with fail
  go_returns
  exact ⟨rfl, bel_trans BX.out b1⟩
set_option maxHeartbeats 1600000 in
theorem mplace_ok (w : World) (x : Value) (S : Int) (R n : Nat) (Z : Nat → Nat → Bool) (s : ByteArray) (h : MpAt w x S R (fun _ => n) Z) (ok : OkM R n) (uS : U S) (hs : s.size ≤ 100000) (hT : TabAt 0 Lib.deBruijn64tab w) :
    Calls Tryd.prog 16 #[x, .string s] w fun e w' => e = .returned (.tuple #[.int .i64 (lineN S s R : Int), .int .i64 (bitN S s n : Int)]) ∧ Below w.heap.size w w' := by
  obtain ⟨v, rfl, hv⟩ := h
  have RC : Hid (∀ w1, Below w.heap.size w w1 → Calls Tryd.prog 13 #[.agg #[.int .u64 S, v]] w1 fun e w' => e = .returned (.bool true) ∧ Below w1.heap.size w1 w') := fun w1 b1 => mright_yes ⟨v, rfl, hv.keep (keep_of_below b1)⟩ ok.right
  obtain ⟨r1, r16, n1, n256⟩ := ok
  obtain ⟨A, cap, b, o, rfl, hc, hr⟩ := hv.read
  have RW : Hid (RowsCells w A R b o (fun _ => n) Z) := hr
  have BX : Hid (Below w.heap.size w (w.alloc (.cells #[.int .u64 S, .slice A R cap] 25))) := bel_alloc _ _
  have KX : Hid (Blk (w.alloc (.cells #[.int .u64 S, .slice A R cap] 25)) w.heap.size 25 #[.int .u64 S, .slice A R cap]) := Blk.new _ _ _
  have HT : Hid (TabAt 0 Lib.deBruijn64tab w) := hT
  obtain ⟨P, hP⟩ : ∃ P, P = lineN S s R := ⟨_, rfl⟩
  obtain ⟨Q, hQ⟩ : ∃ Q, Q = bitN S s n := ⟨_, rfl⟩
  have pl : P < R := by rw [hP]; exact lineN_lt S s R r1
  have E0 : Hid (levelF (rowF S 0) s ((R : Int) - 1) = (P : Int)) := by rw [hP]; exact lineN_eq S s R
  have E1 : Hid (cellF (rowF S 1) s n = (Q : Int)) := by rw [hQ]; exact bitN_eq S s n n1
  have u0 := rowF_U S 0
  have u1 := rowF_U S 1
  rw [← hP, ← hQ]
  clear hP hQ hv hr hT
  generalize hF0 : rowF S 0 = F0 at E0 u0
  generalize hF1 : rowF S 1 = F1 at E1 u1
  have RO0 : Hid (∀ w, Calls Tryd.prog 27 #[.int .u64 S, .int .i64 0] w fun e w' => e = .returned (.int .u64 F0) ∧ w' = w) := fun w => by have := row_any S 0 w uS (by omega); rw [← hF0]; exact this
  have RO1 : Hid (∀ w, Calls Tryd.prog 27 #[.int .u64 S, .int .i64 1] w fun e w' => e = .returned (.int .u64 F1) ∧ w' = w) := fun w => by have := row_any S 1 w uS (by omega); rw [← hF1]; exact this
  clear hF0 hF1
  have LE : Hid (∀ w1, Below w.heap.size w w1 → Calls Tryd.prog 26 #[.int .u64 F0, .string s, .int .i64 ((R : Int) - 1)] w1 fun e w' => e = .returned (.int .i64 (P : Int)) ∧ w' = w1) := fun w1 b1 => by
    have := level_any F0 s ((R : Int) - 1) w1 u0 (by omega) (by omega) (by omega) (tabAt_keep HT.out (keep_of_below b1))
    rw [E0.out] at this
    exact this
  have CE : Hid (∀ w1, Calls Tryd.prog 28 #[.int .u64 F1, .string s, .int .i64 (n : Int)] w1 fun e w' => e = .returned (.int .i64 (Q : Int)) ∧ w' = w1) := fun w1 => by
    have := cell_any F1 s n w1 u1 (by omega) (by omega) (by omega)
    rw [E1.out] at this
    exact this
  clear E0 E1 u0 u1
  obtain ⟨rfl, A0, cap0, b0, o0, d0, _⟩ := RW.out P pl
  have D0 : Hid (w.cell? ⟨b, o + P, none⟩ = some (.slice A0 n cap0)) := d0
  have pb : (P : Int) < (R : Int) := by omega
  have p0 : (0 : Int) ≤ (P : Int) := by omega
  clear d0 RW
  have wr2 : IntKind.i64.wrap ((R : Int) - 1) = (R : Int) - 1 := by rw [IntKind.wrap_i64]; omega
  go_enter Tryd.func16, Tryd.ntmps16
  go_wp2_with fail
  refine (RC.out _ BX.out).mono ?_
  rintro e v1 ⟨rfl, b1⟩
  have B1 : Hid (Below w.heap.size w v1) := bel_trans BX.out b1
  have K1 : Hid (Blk v1 w.heap.size 25 #[.int .u64 S, .slice (some ⟨b, o, none⟩) R cap]) := KX.out.since b1
  clear b1 BX KX RC
  have x0 : v1.cell? ⟨w.heap.size, 0, none⟩ = some (.int .u64 S) := K1.out.cell 0
  have x2 : v1.cell? ⟨w.heap.size, 1, none⟩ = some (.slice (some ⟨b, o, none⟩) R cap) := K1.out.cell 1
  go_wp2_with fail
  go_quiet ((first | (go_at_call 27; exact Calls.quiet_of_same (RO0.out _)) | (go_at_call 26; exact Calls.quiet_of_same (LE.out _ (below_drewN B1.out _)))))
  have B2 : Hid (Below w.heap.size w (v1.drewN nq)) := below_drewN B1.out nq
  have K2 : Hid (Blk (v1.drewN nq) w.heap.size 25 #[.int .u64 S, .slice (some ⟨b, o, none⟩) R cap]) := K1.out
  clear x0 x2 B1 K1 RO0 LE
  generalize v1.drewN nq = v2 at B2 K2 ⊢
  have x0 : v2.cell? ⟨w.heap.size, 0, none⟩ = some (.int .u64 S) := K2.out.cell 0
  have x2 : v2.cell? ⟨w.heap.size, 1, none⟩ = some (.slice (some ⟨b, o, none⟩) R cap) := K2.out.cell 1
  have y0 : v2.cell? ⟨b, o + P, none⟩ = some (.slice A0 n cap0) := keep_of_below B2.out _ _ D0.out
  go_wp2_with fail
  go_quiet ((first | (go_at_call 27; exact Calls.quiet_of_same (RO1.out _)) | (go_at_call 28; exact Calls.quiet_of_same (CE.out _))))
  go_wp2_with fail
  go_returns
  exact ⟨rfl, below_drewN B2.out _⟩
/-- How many of the first bits are not set. -/
def notB (B : Nat → Bool) (k : Nat) : Nat := k - cntB B k
theorem notB_on {B : Nat → Bool} {k : Nat} (h : B k = true) : notB B (k + 1) = notB B k := by
  have := cntB_le B k
  unfold notB
  rw [cntB, if_pos h]
  omega
theorem notB_off {B : Nat → Bool} {k : Nat} (h : B k = false) : notB B (k + 1) = notB B k + 1 := by
  have := cntB_le B k
  unfold notB
  rw [cntB, h]
  simp
  omega
set_option maxHeartbeats 1600000 in
theorem munset_any (w : World) (v : Value) (n : Nat) (B : Nat → Bool) (h : BitsI w v n B) (hn : n ≤ 1000) : Calls Tryd.prog 40 #[v] w fun e w' => e = .returned (.int .i64 (notB B n : Int)) ∧ w' = w := by
  obtain ⟨A, cap, b, o, rfl, h2, h3, h4⟩ := h
  have H3 : Hid (0 < n → A = some ⟨b, o, none⟩) := h3
  have H4 : Hid (∀ i, i < n → w.cell? ⟨b, o + i, none⟩ = some (.bool (B i))) := h4
  clear h3 h4
  go_enter Tryd.func40, Tryd.ntmps40
  go_wp2_with fail
  go_loop [3, 8] (fun t i => ∃ k c : Nat, (k ≤ n ∧ c ≤ k ∧ c = notB B k) ∧ t = .int .i64 (c : Int) ∧ i = .int .i64 (k : Int)) (fun t i => n - (intOf i).toNat)
  case atStart => exact ⟨0, 0, ⟨by omega, by omega, rfl⟩, rfl, rfl⟩
  case round =>
    obtain ⟨k, c, hk, rfl, rfl⟩ := hrel
    have HK : Hid (c = notB B k) := hk.2.2
    have hkR := hk.1
    have hcR := hk.2.1
    clear hk
    by_cases hz : k < n
    · obtain rfl := H3.out (by omega)
      have ck := H4.out k hz
      have bk : (k : Int) < (n : Int) := by omega
      obtain ⟨x, hx⟩ : ∃ x, x = B k := ⟨_, rfl⟩
      rw [← hx] at ck
      have HX : Hid (x = B k) := hx
      clear hx
      cases x with
      | false =>
        go_wp2_with fail
        go_round
        case rel => exact ⟨k + 1, c + 1, ⟨by omega, by omega, by rw [notB_off HX.out.symm, HK.out]⟩, by go_num, by go_num⟩
        case measure => simp [intOf]; omega
      | true =>
        go_wp2_with fail
        go_round
        case rel => exact ⟨k + 1, c, ⟨by omega, by omega, by rw [notB_on HX.out.symm, HK.out]⟩, by go_num, by go_num⟩
        case measure => simp [intOf]; omega
    · have HE : Hid (k = n) := (by omega : k = n)
      have bk : ¬ (k : Int) < (n : Int) := by omega
      go_wp2_with fail
      go_ret
      exact ⟨ret_int (by rw [HK.out, HE.out]), rfl⟩
theorem est_step {n k t c : Nat} (h : t + estC n (n + 1 - k) = c) (h1 : 1 ≤ k) (h2 : k ≤ n) : (t + n * 65536 / k) + estC n (n + 1 - (k + 1)) = c := by
  obtain ⟨d, hd⟩ : ∃ d, d = n - k := ⟨_, rfl⟩
  rw [show n + 1 - k = d + 1 by omega, estC, show n - d = k by omega] at h
  rw [show n + 1 - (k + 1) = d by omega]
  omega
set_option maxHeartbeats 1600000 in
theorem mest_any (w : World) (v : Value) (n : Nat) (B : Nat → Bool) (h : BitsI w v n B) (hn : n ≤ 256) : Calls Tryd.prog 29 #[v] w fun e w' => e = .returned (.int .i64 (estC n (cntB B n) : Int)) ∧ w' = w := by
  have UN : Hid (Calls Tryd.prog 40 #[v] w fun e w' => e = .returned (.int .i64 (notB B n : Int)) ∧ w' = w) := munset_any w v n B h (by omega)
  obtain ⟨A, cap, b, o, rfl, h2, h3, h4⟩ := h
  clear h3 h4
  have cl := cntB_le B n
  obtain ⟨z, hz⟩ : ∃ z, z = notB B n := ⟨_, rfl⟩
  have zn : z ≤ n := by rw [hz]; unfold notB; omega
  have HZ : Hid (cntB B n = n - z) := by show cntB B n = n - z; rw [hz]; unfold notB; omega
  rw [← hz] at UN
  have ub := estC_lt cl hn
  rw [HZ.out] at ub ⊢
  obtain ⟨T, hT⟩ : ∃ T, T = estC n (n - z) := ⟨_, rfl⟩
  rw [← hT] at ub ⊢
  have HT : Hid (T = estC n (n - z)) := hT
  clear hz hT HZ cl
  go_enter Tryd.func29, Tryd.ntmps29
  go_wp2_with fail
  refine UN.out.mono ?_
  rintro e w' ⟨rfl, rfl⟩
  clear UN
  go_wp2_with fail
  go_loop [3, 4] (fun s i => ∃ k t : Nat, (1 ≤ k ∧ k ≤ n + 1 ∧ t ≤ T ∧ t + estC n (n + 1 - k) = T) ∧ s = .int .i64 (t : Int) ∧ i = .int .i64 (k : Int)) (fun s i => n + 1 - (intOf i).toNat)
  case atStart => exact ⟨z + 1, 0, ⟨by omega, by omega, by omega, by rw [HT.out, Nat.zero_add, show n + 1 - (z + 1) = n - z by omega]⟩, by go_num, by go_num⟩
  case round =>
    obtain ⟨k, t, ⟨k1, kn, tT, ht⟩, rfl, rfl⟩ := hrel
    have HK : Hid (t + estC n (n + 1 - k) = T) := ht
    clear ht
    by_cases hk : k ≤ n
    · have bk : (k : Int) ≤ (n : Int) := by omega
      have HS : Hid ((t + n * 65536 / k) + estC n (n + 1 - (k + 1)) = T) := est_step HK.out k1 hk
      obtain ⟨q, hq⟩ : ∃ q, q = n * 65536 / k := ⟨_, rfl⟩
      have HQ : (n : Int) * 65536 / (k : Int) = (q : Int) := by rw [hq, Int.natCast_ediv, Int.natCast_mul]; rfl
      rw [← hq] at HS
      have qT : t + q ≤ T := by have := HS.out; omega
      clear hq
      have kne : (k : Int) ≠ 0 := by omega
      go_wp2_with fail
      go_round
      case rel => exact ⟨k + 1, t + q, ⟨by omega, by omega, qT, HS.out⟩, by go_num, by go_num⟩
      case measure => simp [intOf]; omega
    · have bk : ¬ (k : Int) ≤ (n : Int) := by omega
      have HE : Hid (t = T) := by
        have := HK.out
        rw [show n + 1 - k = 0 by omega, estC] at this
        show t = T
        omega
      go_wp2_with fail
      go_ret
      exact ⟨ret_int (by rw [HE.out]), rfl⟩
set_option maxHeartbeats 1600000 in
theorem mestim_bad (w : World) (x : Value) (S : Int) (R : Nat) (L : Nat → Nat) (Z : Nat → Nat → Bool) (h : MpAt w x S R L Z) (hR : R ≤ 1000) (hL : ∀ i, i < R → L i ≤ 1000) (r : ¬ RightM R L) :
    Calls Tryd.prog 17 #[x] w fun e w' => e = .returned (.int .i64 0) ∧ Below w.heap.size w w' := by
  obtain ⟨v, rfl, hv⟩ := h
  have RC : Hid (∀ w1, Below w.heap.size w w1 → Calls Tryd.prog 13 #[.agg #[.int .u64 S, v]] w1 fun e w' => e = .returned (.bool false) ∧ Below w1.heap.size w1 w') := fun w1 b1 => mright_no ⟨v, rfl, hv.keep (keep_of_below b1)⟩ hR hL r
  obtain ⟨A, cap, b, o, rfl, hc, hr⟩ := hv.read
  have BX : Hid (Below w.heap.size w (w.alloc (.cells #[.int .u64 S, .slice A R cap] 25))) := bel_alloc _ _
  clear hv hr hL r
  go_enter Tryd.func17, Tryd.ntmps17
  go_wp2_with fail
  refine (RC.out _ BX.out).mono ?_
  rintro e u1 ⟨rfl, b1⟩
  go_wp2_with fail
  go_ret
  exact ⟨rfl, bel_trans BX.out b1⟩
set_option maxHeartbeats 1600000 in
theorem mestim_ok (w : World) (x : Value) (S : Int) (R n : Nat) (Z : Nat → Nat → Bool) (h : MpAt w x S R (fun _ => n) Z) (ok : OkM R n) :
    Calls Tryd.prog 17 #[x] w fun e w' => e = .returned (.int .i64 (estM n Z R : Int)) ∧ Below w.heap.size w w' := by
  obtain ⟨v, rfl, hv⟩ := h
  have RC : Hid (∀ w1, Below w.heap.size w w1 → Calls Tryd.prog 13 #[.agg #[.int .u64 S, v]] w1 fun e w' => e = .returned (.bool true) ∧ Below w1.heap.size w1 w') := fun w1 b1 => mright_yes ⟨v, rfl, hv.keep (keep_of_below b1)⟩ ok.right
  obtain ⟨r1, r16, n1, n256⟩ := ok
  obtain ⟨A, cap, b, o, rfl, hc, hr⟩ := hv.read
  have RW : Hid (RowsCells w A R b o (fun _ => n) Z) := hr
  have BX : Hid (Below w.heap.size w (w.alloc (.cells #[.int .u64 S, .slice A R cap] 25))) := bel_alloc _ _
  have KX : Hid (Blk (w.alloc (.cells #[.int .u64 S, .slice A R cap] 25)) w.heap.size 25 #[.int .u64 S, .slice A R cap]) := Blk.new _ _ _
  clear hv hr
  go_enter Tryd.func17, Tryd.ntmps17
  go_wp2_with fail
  refine (RC.out _ BX.out).mono ?_
  rintro e u1 ⟨rfl, b1⟩
  have B1 : Hid (Below w.heap.size w u1) := bel_trans BX.out b1
  have x2 : u1.cell? ⟨w.heap.size, 1, none⟩ = some (.slice A R cap) := (KX.out.since b1).cell 1
  clear b1 BX KX RC
  go_wp2_with fail
  clear x2
  go_loop [3, 12] (fun t i => ∃ k c : Nat, (k ≤ R ∧ c = estM n Z k) ∧ t = .int .i64 (c : Int) ∧ i = .int .i64 (k : Int)) (fun t i => R - (intOf i).toNat)
  case atStart => exact ⟨0, 0, ⟨by omega, rfl⟩, rfl, rfl⟩
  case round =>
    obtain ⟨k, c, hk, rfl, rfl⟩ := hrel
    have HK : Hid (c = estM n Z k) := hk.2
    have hkR := hk.1
    clear hk
    by_cases hz : k < R
    · obtain ⟨rfl, A', cap', b', o', ck, lk, fk, gk⟩ := RW.out k hz
      have ES : Hid (Calls Tryd.prog 29 #[.slice A' n cap'] u1 fun e w' => e = .returned (.int .i64 (estC n (cntB (Z k) n) : Int)) ∧ w' = u1) := mest_any u1 _ n (Z k) ⟨A', cap', b', o', rfl, lk, fk, fun j hj => keep_of_below B1.out _ _ (gk j hj)⟩ n256
      have ck := keep_of_below B1.out _ _ ck
      have bk : (k : Int) < (R : Int) := by omega
      obtain ⟨q, hq⟩ : ∃ q, q = estC n (cntB (Z k) n) := ⟨_, rfl⟩
      have q1 : q ≤ 4294967296 := by rw [hq]; exact estC_lt (cntB_le _ _) n256
      have c1 : c ≤ 16 * 4294967296 := by have := estM_lt n Z n256 k; have := HK.out; omega
      rw [← hq] at ES
      have HN : Hid (c + q = estM n Z (k + 1)) := by rw [estM, hq, HK.out]; exact rfl
      clear hq lk fk gk
      go_wp2_with fail
      refine ES.out.mono ?_
      rintro e u2 ⟨rfl, rfl⟩
      go_wp2_with fail
      go_round
      case rel => exact ⟨k + 1, c + q, ⟨by omega, HN.out⟩, by go_num, by go_num⟩
      case measure => simp [intOf]; omega
    · have HE : Hid (k = R) := (by omega : k = R)
      have bk : ¬ (k : Int) < (R : Int) := by omega
      go_wp2_with fail
      go_ret
      exact ⟨ret_int (by rw [HK.out, HE.out]), B1.out⟩
def AlikeM (S : Int) (R n : Nat) (S' : Int) (R' n' : Nat) : Prop := S = S' ∧ R = R' ∧ n = n'
set_option maxHeartbeats 3200000 in
theorem malike_any (w : World) (x y : Value) (S S' : Int) (R R' n n' : Nat) (Z Y : Nat → Nat → Bool) (h : MpAt w x S R (fun _ => n) Z) (h' : MpAt w y S' R' (fun _ => n') Y) (r1 : 1 ≤ R) (r2 : 1 ≤ R') :
    Calls Tryd.prog 33 #[x, y] w (TellsB w (AlikeM S R n S' R' n')) := by
  obtain ⟨v, rfl, hv⟩ := h
  obtain ⟨A, cap, b, o, rfl, hc, hr⟩ := hv.read
  obtain ⟨v', rfl, hv'⟩ := h'
  obtain ⟨A', cap', b', o', rfl, hc', hr'⟩ := hv'.read
  have BX : Hid (Below w.heap.size w ((w.alloc (.cells #[.int .u64 S, .slice A R cap] 25)).alloc (.cells #[.int .u64 S', .slice A' R' cap'] 25))) := (bel_alloc _ _).alloc (by simp) _
  have KX : Hid (Blk ((w.alloc (.cells #[.int .u64 S, .slice A R cap] 25)).alloc (.cells #[.int .u64 S', .slice A' R' cap'] 25)) w.heap.size 25 #[.int .u64 S, .slice A R cap]) := (Blk.new _ _ _).alloc _
  have KY : Hid (Blk ((w.alloc (.cells #[.int .u64 S, .slice A R cap] 25)).alloc (.cells #[.int .u64 S', .slice A' R' cap'] 25)) (w.heap.size + 1) 25 #[.int .u64 S', .slice A' R' cap']) := by
    have e := Blk.new (w.alloc (.cells #[.int .u64 S, .slice A R cap] 25)) 25 #[.int .u64 S', .slice A' R' cap']
    simp only [World.size_alloc] at e
    exact e
  obtain ⟨rfl, A0, cap0, b0, o0, c0, _⟩ := hr 0 (by omega)
  obtain ⟨rfl, A1, cap1, b1, o1, c1, _⟩ := hr' 0 (by omega)
  rw [Nat.add_zero] at c0 c1
  have C0 : Hid (((w.alloc (.cells #[.int .u64 S, .slice (some ⟨b, o, none⟩) R cap] 25)).alloc (.cells #[.int .u64 S', .slice (some ⟨b', o', none⟩) R' cap'] 25)).cell? ⟨b, o, none⟩ = some (.slice A0 n cap0)) := keep_of_below BX.out _ _ c0
  have C1 : Hid (((w.alloc (.cells #[.int .u64 S, .slice (some ⟨b, o, none⟩) R cap] 25)).alloc (.cells #[.int .u64 S', .slice (some ⟨b', o', none⟩) R' cap'] 25)).cell? ⟨b', o', none⟩ = some (.slice A1 n' cap1)) := keep_of_below BX.out _ _ c1
  have i1 : (0 : Int) < (R : Int) := by omega
  have i2 : (0 : Int) < (R' : Int) := by omega
  clear hv hv' hr hr' c0 c1
  by_cases k0 : S = S'
  rotate_left
  · have HN : Hid (¬ S = S') := k0
    have q0 : (S == S') = false := by simp; first | exact k0 | omega
    clear k0
    go_enter Tryd.func33, Tryd.ntmps33
    go_wp2_with fail
    generalize (w.alloc (.cells #[.int .u64 S, .slice (some ⟨b, o, none⟩) R cap] 25)).alloc (.cells #[.int .u64 S', .slice (some ⟨b', o', none⟩) R' cap'] 25) = W at *
    have c0 := C0.out
    have c1 := C1.out
    have x0 : W.cell? ⟨w.heap.size, 0, none⟩ = some (.int .u64 S) := KX.out.cell 0
    have x2 : W.cell? ⟨w.heap.size, 1, none⟩ = some (.slice (some ⟨b, o, none⟩) R cap) := KX.out.cell 1
    have y0 : W.cell? ⟨w.heap.size + 1, 0, none⟩ = some (.int .u64 S') := KY.out.cell 0
    have y2 : W.cell? ⟨w.heap.size + 1, 1, none⟩ = some (.slice (some ⟨b', o', none⟩) R' cap') := KY.out.cell 1
    go_quiet (fail)
    go_wp2_with fail
    go_ret
    exact ⟨false, rfl, ⟨fun h => (by cases h), fun h => absurd h.1 HN.out⟩, below_drewN BX.out nq⟩
  have H0 : Hid (S = S') := k0
  have q0 : (S == S') = true := by simp; first | exact k0 | omega
  clear k0
  by_cases k1 : R = R'
  rotate_left
  · have HN : Hid (¬ R = R') := k1
    have q1 : ((R : Int) == (R' : Int)) = false := by simp; first | exact k1 | omega
    clear k1
    go_enter Tryd.func33, Tryd.ntmps33
    go_wp2_with fail
    generalize (w.alloc (.cells #[.int .u64 S, .slice (some ⟨b, o, none⟩) R cap] 25)).alloc (.cells #[.int .u64 S', .slice (some ⟨b', o', none⟩) R' cap'] 25) = W at *
    have c0 := C0.out
    have c1 := C1.out
    have x0 : W.cell? ⟨w.heap.size, 0, none⟩ = some (.int .u64 S) := KX.out.cell 0
    have x2 : W.cell? ⟨w.heap.size, 1, none⟩ = some (.slice (some ⟨b, o, none⟩) R cap) := KX.out.cell 1
    have y0 : W.cell? ⟨w.heap.size + 1, 0, none⟩ = some (.int .u64 S') := KY.out.cell 0
    have y2 : W.cell? ⟨w.heap.size + 1, 1, none⟩ = some (.slice (some ⟨b', o', none⟩) R' cap') := KY.out.cell 1
    go_quiet (fail)
    go_wp2_with fail
    go_ret
    exact ⟨false, rfl, ⟨fun h => (by cases h), fun h => absurd h.2.1 HN.out⟩, below_drewN BX.out nq⟩
  have H1 : Hid (R = R') := k1
  have q1 : ((R : Int) == (R' : Int)) = true := by simp; first | exact k1 | omega
  clear k1
  by_cases k2 : n = n'
  rotate_left
  · have HN : Hid (¬ n = n') := k2
    have q2 : ((n : Int) == (n' : Int)) = false := by simp; first | exact k2 | omega
    clear k2
    go_enter Tryd.func33, Tryd.ntmps33
    go_wp2_with fail
    generalize (w.alloc (.cells #[.int .u64 S, .slice (some ⟨b, o, none⟩) R cap] 25)).alloc (.cells #[.int .u64 S', .slice (some ⟨b', o', none⟩) R' cap'] 25) = W at *
    have c0 := C0.out
    have c1 := C1.out
    have x0 : W.cell? ⟨w.heap.size, 0, none⟩ = some (.int .u64 S) := KX.out.cell 0
    have x2 : W.cell? ⟨w.heap.size, 1, none⟩ = some (.slice (some ⟨b, o, none⟩) R cap) := KX.out.cell 1
    have y0 : W.cell? ⟨w.heap.size + 1, 0, none⟩ = some (.int .u64 S') := KY.out.cell 0
    have y2 : W.cell? ⟨w.heap.size + 1, 1, none⟩ = some (.slice (some ⟨b', o', none⟩) R' cap') := KY.out.cell 1
    go_quiet (fail)
    go_wp2_with fail
    go_ret
    exact ⟨false, rfl, ⟨fun h => (by cases h), fun h => absurd h.2.2 HN.out⟩, below_drewN BX.out nq⟩
  have H2 : Hid (n = n') := k2
  have q2 : ((n : Int) == (n' : Int)) = true := by simp; first | exact k2 | omega
  clear k2
  go_enter Tryd.func33, Tryd.ntmps33
  go_wp2_with fail
  generalize (w.alloc (.cells #[.int .u64 S, .slice (some ⟨b, o, none⟩) R cap] 25)).alloc (.cells #[.int .u64 S', .slice (some ⟨b', o', none⟩) R' cap'] 25) = W at *
  have c0 := C0.out
  have c1 := C1.out
  have x0 : W.cell? ⟨w.heap.size, 0, none⟩ = some (.int .u64 S) := KX.out.cell 0
  have x2 : W.cell? ⟨w.heap.size, 1, none⟩ = some (.slice (some ⟨b, o, none⟩) R cap) := KX.out.cell 1
  have y0 : W.cell? ⟨w.heap.size + 1, 0, none⟩ = some (.int .u64 S') := KY.out.cell 0
  have y2 : W.cell? ⟨w.heap.size + 1, 1, none⟩ = some (.slice (some ⟨b', o', none⟩) R' cap') := KY.out.cell 1
  go_quiet (fail)
  go_wp2_with fail
  go_ret
  exact ⟨true, rfl, ⟨fun _ => ⟨H0.out, H1.out, H2.out⟩, fun _ => rfl⟩, below_drewN BX.out nq⟩
end Go.Proofs.YtkfhofgmjhnknaaDoor
