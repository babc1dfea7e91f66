
/-
  Right, cell, sign, Cell and alike of layer 12 (signed): what they answer.
-/
import Derived.Test.YtpjpgcjlbfgkdaaSgnMem
import Derived.BigQuiet
namespace Go.Proofs.Ytpjpgcjlbfgkdaa
open Go.RowKit Fm Bl Sg L2 Go.Deep
set_option linter.unusedVariables false

set_option maxHeartbeats 1600000 in
theorem gright_any (w : World) (x : Value) (S : Int) (R : Nat) (L : Nat → Nat) (Z : Nat → Nat → Int) (h : SgAt w x S R L Z) (hR : R ≤ 1000) (hL : ∀ i, i < R → L i ≤ 1000) :
    Calls Try.prog 17 #[x] w (TellsB w (RightG R L Z)) := by
  obtain ⟨v, rfl, hv⟩ := h
  obtain ⟨A, cap, b, o, rfl, hc, hr⟩ := hv.read
  have BX : Hid (Below w.heap.size w (w.alloc (.cells #[.int .u64 S, .slice A R cap] 25))) := bel_alloc _ _
  have KX : Hid (Blk (w.alloc (.cells #[.int .u64 S, .slice A R cap] 25)) w.heap.size 25 #[.int .u64 S, .slice A R cap]) := Blk.new _ _ _
  have RC : Hid (RowsCells (w.alloc (.cells #[.int .u64 S, .slice A R cap] 25)) A R b o L Z) := RowsCells.keep hr (keep_of_below BX.out)
  have HL : Hid (∀ i, i < R → L i ≤ 1000) := hL
  clear hv hr hL
  by_cases h0 : R = 0
  · subst h0
    clear RC HL KX
    go_enter Try.func17, Try.ntmps17
    go_wp2_with fail
    go_quiet (fail)
    go_wp2_with fail
    go_ret
    exact ⟨false, rfl, ⟨fun h => (by cases h), fun h => by have := h.1; omega⟩, below_drewN BX.out nq⟩
  have hne : ((R : Int) == 0) = false := by simpa using h0
  have hix : (0 : Int) < R := by omega
  have hin : 0 < R := by omega
  clear h0
  obtain ⟨rfl, A0, cap0, b0, o0, c0, l0, f0, g0⟩ := RC.out 0 hin
  rw [Nat.add_zero] at c0
  clear l0 f0 g0
  obtain ⟨n, hn⟩ : ∃ n, n = L 0 := ⟨_, rfl⟩
  rw [← hn] at c0
  have HN : Hid (n = L 0) := hn
  have n1 : n ≤ 1000 := by rw [hn]; exact HL.out 0 hin
  clear hn
  by_cases hf : fitsS R n = true
  rotate_left
  · have hf' : fitsS R n = false := by simpa using hf
    have HF : Hid (fitsS R n = false) := hf'
    clear hf RC
    go_enter Try.func17, Try.ntmps17
    go_wp2_with fail
    generalize w.alloc (.cells #[.int .u64 S, .slice (some ⟨b, o, none⟩) R cap] 25) = W at BX KX c0 ⊢
    have x2 : W.cell? ⟨w.heap.size, 1, none⟩ = some (.slice (some ⟨b, o, none⟩) R cap) := KX.out.cell 1
    go_quiet ((go_at_call 27; exact Calls.quiet_of_same (gfits_any (R : Int) (n : Int) _)))
    go_wp2_with fail
    go_ret
    refine ⟨false, rfl, ⟨fun h => (by cases h), fun h => ?_⟩, below_drewN BX.out nq⟩
    have : fitsS R n = true := by rw [fitsS_iff, HN.out]; obtain ⟨q1, q2, q3, q4, q5, _⟩ := h; omega
    rw [HF.out] at this; cases this
  have hR := (fitsS_iff _ _).1 hf
  have HRR : Hid (1 ≤ R ∧ R ≤ 7 ∧ R % 2 = 1 ∧ 1 ≤ n ∧ n ≤ 256) := by refine ⟨?_, ?_, ?_, ?_, ?_⟩ <;> omega
  have n0 : 1 ≤ n := by omega
  clear hR
  go_enter Try.func17, Try.ntmps17
  go_wp2_with fail
  generalize w.alloc (.cells #[.int .u64 S, .slice (some ⟨b, o, none⟩) R cap] 25) = W at BX KX c0 RC ⊢
  have x2 : W.cell? ⟨w.heap.size, 1, none⟩ = some (.slice (some ⟨b, o, none⟩) R cap) := KX.out.cell 1
  go_quiet ((go_at_call 27; exact Calls.quiet_of_same (gfits_any (R : Int) (n : Int) _)))
  clear hf
  have BW : Hid (Below w.heap.size w (W.drewN nq)) := below_drewN BX.out nq
  have KW : Hid (Blk (W.drewN nq) w.heap.size 25 #[.int .u64 S, .slice (some ⟨b, o, none⟩) R cap]) := KX.out
  have RW : Hid (RowsCells (W.drewN nq) (some ⟨b, o, none⟩) R b o L Z) := RC.out
  have c0 : (W.drewN nq).cell? ⟨b, o, none⟩ = some (.slice A0 n cap0) := c0
  clear x2 RC KX BX
  generalize W.drewN nq = W2 at *
  have x2 : W2.cell? ⟨w.heap.size, 1, none⟩ = some (.slice (some ⟨b, o, none⟩) R cap) := KW.out.cell 1
  go_wp2_with fail
  go_loop [24] (fun i => ∃ k : Nat, (k ≤ R ∧ ∀ r, r < k → L r = L 0 ∧ ∀ j, j < L 0 → FitsI (Z r j)) ∧ i = .int .i64 (k : Int)) (fun i => R - (intOf i).toNat)
  case atStart => exact ⟨0, ⟨by omega, fun r hr => by omega⟩, rfl⟩
  case round =>
    obtain ⟨k, hk, rfl⟩ := hrel
    have HK : Hid (k ≤ R ∧ ∀ r, r < k → L r = L 0 ∧ ∀ j, j < L 0 → FitsI (Z r j)) := hk
    have hkR := hk.1
    clear hk
    by_cases hz : k < R
    · obtain ⟨_, A', cap', b', o', ck, lk, fk, gk⟩ := RW.out k hz
      have bk : (k : Int) < (R : Int) := by omega
      have WC : Hid (Calls Try.prog 34 #[.slice A' (L k) cap'] W2 (TellsW W2 (∀ j, j < L k → FitsI (Z k j)))) := gall_any W2 _ (L k) (Z k) ⟨A', cap', b', o', rfl, lk, fk, gk⟩ (by have := HL.out k hz; omega)
      have lk1 := HL.out k hz
      obtain ⟨m, hm⟩ : ∃ m, m = L k := ⟨_, rfl⟩
      rw [← hm] at ck WC lk1
      have HM : Hid (m = L k) := hm
      clear lk fk gk hm
      by_cases e1 : m = n
      rotate_left
      · have e2 : ((m : Int) != (n : Int)) = true := by simp; omega
        have HE : Hid (m ≠ n) := e1
        clear e1
        go_wp2_with fail
        go_ret
        exact ⟨false, rfl, ⟨fun h => (by cases h), fun h => absurd (h.2.2.2.2.2 k hz).1 (by rw [← HM.out, ← HN.out]; exact HE.out)⟩, BW.out⟩
      · have e2 : ((m : Int) != (n : Int)) = false := by simp; omega
        have HE : Hid (m = n) := e1
        clear e1
        go_wp2_with fail
        refine WC.out.mono ?_
        rintro e u1 ⟨B, rfl, hB, rfl⟩
        have HB : Hid (B = true ↔ ∀ j, j < m → FitsI (Z k j)) := hB
        clear hB
        cases B with
        | false =>
          go_wp2_with fail
          go_ret
          refine ⟨false, rfl, ⟨fun h => (by cases h), fun h => ?_⟩, BW.out⟩
          have := HB.out.2 (by rw [HE.out, HN.out]; exact (h.2.2.2.2.2 k hz).2)
          cases this
        | true =>
          go_wp2_with fail
          go_round
          case rel =>
            refine ⟨k + 1, ⟨by omega, fun r hr => ?_⟩, by go_num⟩
            by_cases e : r = k
            · rw [e, ← HN.out]; exact ⟨by rw [← HM.out, HE.out], by have := HB.out.1 (by first | rfl | trivial); rw [HE.out] at this; exact this⟩
            · exact HK.out.2 r (by omega)
          case measure => simp [intOf]; omega
    · go_wp2_with fail
      go_ret
      refine ⟨true, rfl, ⟨fun _ => ?_, fun _ => rfl⟩, BW.out⟩
      obtain ⟨q1, q2, q3, q4, q5⟩ := HRR.out
      rw [HN.out] at q4 q5
      exact ⟨q1, q2, q3, q4, q5, fun r hr => HK.out.2 r (by omega)⟩
theorem gright_yes {w : World} {x : Value} {S : Int} {R : Nat} {L : Nat → Nat} {Z : Nat → Nat → Int} (h : SgAt w x S R L Z) (r : RightG R L Z) :
    Calls Try.prog 17 #[x] w fun e w' => e = .returned (.bool true) ∧ Below w.heap.size w w' := by
  have hl : ∀ i, i < R → L i ≤ 1000 := fun i hi => by have := (r.2.2.2.2.2 i hi).1; have := r.2.2.2.2.1; omega
  refine (gright_any w x S R L Z h (by have := r.2.1; omega) hl).mono ?_
  rintro e w' ⟨B, rfl, h1, h2⟩
  exact ⟨by rw [h1.2 r], h2⟩
theorem gright_no {w : World} {x : Value} {S : Int} {R : Nat} {L : Nat → Nat} {Z : Nat → Nat → Int} (h : SgAt w x S R L Z) (hR : R ≤ 1000) (hL : ∀ i, i < R → L i ≤ 1000) (r : ¬ RightG R L Z) :
    Calls Try.prog 17 #[x] w fun e w' => e = .returned (.bool false) ∧ Below w.heap.size w w' := by
  refine (gright_any w x S R L Z h hR hL).mono ?_
  rintro e w' ⟨B, rfl, h1, h2⟩
  refine ⟨?_, h2⟩
  cases B with
  | false => rfl
  | true => exact absurd (h1.1 rfl) r
set_option maxHeartbeats 1600000 in
theorem gcell_any (w : World) (x : Value) (S : Int) (R n : Nat) (Z : Nat → Nat → Int) (s : ByteArray) (i : Nat) (h : SgAt w x S R (fun _ => n) Z) (uS : U S) (hs : s.size ≤ 100000) (hi : i < R) (hR : R ≤ 100) (hn : 1 ≤ n) (hn1 : n ≤ 1000) :
    Calls Try.prog 31 #[x, .string s, .int .i64 (i : Int)] w fun e w' => e = .returned (.int .i64 (cellN S s n i : Int)) ∧ Below w.heap.size w w' := by
  obtain ⟨v, rfl, hv⟩ := h
  obtain ⟨A, cap, b, o, rfl, hc, hr⟩ := hv.read
  have BX : Hid (Below w.heap.size w (w.alloc (.cells #[.int .u64 S, .slice A R cap] 25))) := bel_alloc _ _
  have KX : Hid (Blk (w.alloc (.cells #[.int .u64 S, .slice A R cap] 25)) w.heap.size 25 #[.int .u64 S, .slice A R cap]) := Blk.new _ _ _
  have RC : Hid (RowsCells (w.alloc (.cells #[.int .u64 S, .slice A R cap] 25)) A R b o (fun _ => n) Z) := RowsCells.keep hr (keep_of_below BX.out)
  have hix : (i : Int) < (R : Int) := by omega
  have hi0 : (0 : Int) ≤ (i : Int) := by omega
  obtain ⟨rfl, A0, cap0, b0, o0, c0, l0, f0, g0⟩ := RC.out i hi
  clear hv hr l0 f0 g0 RC
  have ur := rowF_U S ((2 * i : Nat) : Int)
  have HP : Hid (cellF (rowF S ((2 * i : Nat) : Int)) s n = (cellN S s n i : Int)) := placeN_eq S s n (2 * i) hn
  generalize hQ : rowF S ((2 * i : Nat) : Int) = Q at HP ur
  have HQ : Hid (rowF S ((2 * i : Nat) : Int) = Q) := hQ
  have RO : Hid (∀ w, Calls Try.prog 41 #[.int .u64 S, .int .i64 (2 * (i : Int))] w fun e w' => e = .returned (.int .u64 Q) ∧ w' = w) := fun w => by have := row_any S (2 * i) w uS (by omega); rw [HQ.out, show ((2 * i : Nat) : Int) = 2 * (i : Int) by omega] at this; exact this
  have CE : Hid (∀ w, Calls Try.prog 40 #[.int .u64 Q, .string s, .int .i64 (n : Int)] w fun e w' => e = .returned (.int .i64 (cellF Q s n)) ∧ w' = w) := fun w => cell_any Q s n w ur (by omega) (by omega) (by omega)
  clear hQ
  go_enter Try.func31, Try.ntmps31
  go_wp2_with fail
  generalize w.alloc (.cells #[.int .u64 S, .slice (some ⟨b, o, none⟩) R cap] 25) = W at BX KX c0 ⊢
  have x0 : W.cell? ⟨w.heap.size, 0, none⟩ = some (.int .u64 S) := KX.out.cell 0
  have x2 : W.cell? ⟨w.heap.size, 1, none⟩ = some (.slice (some ⟨b, o, none⟩) R cap) := KX.out.cell 1
  have wr2 : IntKind.i64.wrap (2 * (i : Int)) = 2 * (i : Int) := by rw [IntKind.wrap_i64]; omega
  go_quiet ((first | (go_at_call 41; exact Calls.quiet_of_same (RO.out _)) | (go_at_call 40; exact Calls.quiet_of_same (CE.out _))))
  go_wp2_with fail
  go_ret
  exact ⟨ret_int HP.out, below_drewN BX.out nq⟩
set_option maxHeartbeats 1600000 in
theorem gsign_any (w : World) (x : Value) (S : Int) (R n : Nat) (Z : Nat → Nat → Int) (s : ByteArray) (i : Nat) (h : SgAt w x S R (fun _ => n) Z) (uS : U S) (hs : s.size ≤ 100000) (hi : i ≤ 100) :
    Calls Try.prog 32 #[x, .string s, .int .i64 (i : Int)] w fun e w' => e = .returned (.int .i64 (sgnN S s i)) ∧ Below w.heap.size w w' := by
  obtain ⟨v, rfl, hv⟩ := h
  obtain ⟨A, cap, b, o, rfl, hc, hr⟩ := hv.read
  have BX : Hid (Below w.heap.size w (w.alloc (.cells #[.int .u64 S, .slice A R cap] 25))) := bel_alloc _ _
  have KX : Hid (Blk (w.alloc (.cells #[.int .u64 S, .slice A R cap] 25)) w.heap.size 25 #[.int .u64 S, .slice A R cap]) := Blk.new _ _ _
  clear hv hr
  have ur := rowF_U S ((2 * i + 1 : Nat) : Int)
  have HP : Hid (signF (rowF S ((2 * i + 1 : Nat) : Int)) s = sgnN S s i) := rfl
  generalize hQ : rowF S ((2 * i + 1 : Nat) : Int) = Q at HP ur
  have HQ : Hid (rowF S ((2 * i + 1 : Nat) : Int) = Q) := hQ
  have RO : Hid (∀ w, Calls Try.prog 41 #[.int .u64 S, .int .i64 (2 * (i : Int) + 1)] w fun e w' => e = .returned (.int .u64 Q) ∧ w' = w) := fun w => by have := row_any S (2 * i + 1) w uS (by omega); rw [HQ.out, show ((2 * i + 1 : Nat) : Int) = 2 * (i : Int) + 1 by omega] at this; exact this
  clear hQ
  go_enter Try.func32, Try.ntmps32
  go_wp2_with fail
  refine (RO.out _).mono ?_
  rintro e u1 ⟨rfl, rfl⟩
  go_wp2_with fail
  refine (sign_any Q s _ ur (by omega)).mono ?_
  rintro e u2 ⟨rfl, rfl⟩
  go_wp2_with fail
  go_ret
  exact ⟨ret_int HP.out, BX.out⟩
/-- The key's cell in the row i, or 0. -/
def atG (S : Int) (s : ByteArray) (R n : Nat) (i : Int) : Int := if 0 ≤ i ∧ i < R then (cellN S s n i.toNat : Int) else 0
theorem atG_in {S : Int} {s : ByteArray} {R n k : Nat} (h : k < R) : atG S s R n (k : Int) = (cellN S s n k : Int) := by
  unfold atG
  rw [if_pos ⟨by omega, by omega⟩, Int.toNat_natCast]
theorem atG_out {S : Int} {s : ByteArray} {R n : Nat} {i : Int} (h : ¬ (0 ≤ i ∧ i < R)) : atG S s R n i = 0 := if_neg h
set_option maxHeartbeats 1600000 in
theorem gat_bad (w : World) (x : Value) (S : Int) (R : Nat) (L : Nat → Nat) (Z : Nat → Nat → Int) (s : ByteArray) (i : Int) (h : SgAt w x S R L Z) (hR : R ≤ 1000) (hL : ∀ i, i < R → L i ≤ 1000) (r : ¬ RightG R L Z) :
    Calls Try.prog 18 #[x, .string s, .int .i64 i] w fun e w' => e = .returned (.int .i64 0) ∧ Below w.heap.size w w' := by
  obtain ⟨v, rfl, hv⟩ := h
  have RC : Hid (∀ w1, Below w.heap.size w w1 → Calls Try.prog 17 #[.agg #[.int .u64 S, v]] w1 fun e w' => e = .returned (.bool false) ∧ Below w1.heap.size w1 w') := fun w1 b1 => gright_no ⟨v, rfl, hv.keep (keep_of_below b1)⟩ hR hL r
  obtain ⟨A, cap, b, o, rfl, hc, hr⟩ := hv.read
  have BX : Hid (Below w.heap.size w (w.alloc (.cells #[.int .u64 S, .slice A R cap] 25))) := bel_alloc _ _
  clear hv hr hL r
  go_enter Try.func18, Try.ntmps18
  go_wp2_with fail
  refine (RC.out _ BX.out).mono ?_
  rintro e u1 ⟨rfl, b1⟩
  go_wp2_with fail
  go_ret
  exact ⟨rfl, bel_trans BX.out b1⟩
set_option maxHeartbeats 1600000 in
theorem gat_ok (w : World) (x : Value) (S : Int) (R n : Nat) (Z : Nat → Nat → Int) (s : ByteArray) (i : Int) (h : SgAt w x S R (fun _ => n) Z) (ok : OkG R n Z) (uS : U S) (hs : s.size ≤ 100000) :
    Calls Try.prog 18 #[x, .string s, .int .i64 i] w fun e w' => e = .returned (.int .i64 (atG S s R n i)) ∧ Below w.heap.size w w' := by
  obtain ⟨v, rfl, hv⟩ := h
  have RC : Hid (∀ w1, Below w.heap.size w w1 → Calls Try.prog 17 #[.agg #[.int .u64 S, v]] w1 fun e w' => e = .returned (.bool true) ∧ Below w1.heap.size w1 w') := fun w1 b1 => gright_yes ⟨v, rfl, hv.keep (keep_of_below b1)⟩ ok.right
  have hR : R ≤ 7 := ok.2.1
  have n0 : 1 ≤ n := ok.2.2.2.1
  have n1 : n ≤ 256 := ok.2.2.2.2.1
  have CE : Hid (∀ w1, Below w.heap.size w w1 → ∀ k : Nat, k < R → Calls Try.prog 31 #[.agg #[.int .u64 S, v], .string s, .int .i64 (k : Int)] w1 fun e w' => e = .returned (.int .i64 (cellN S s n k : Int)) ∧ Below w1.heap.size w1 w') := fun w1 b1 k hk => gcell_any w1 _ S R n Z s k ⟨v, rfl, hv.keep (keep_of_below b1)⟩ uS hs hk (by omega) n0 (by omega)
  obtain ⟨A, cap, b, o, rfl, hc, hr⟩ := hv.read
  have BX : Hid (Below w.heap.size w (w.alloc (.cells #[.int .u64 S, .slice A R cap] 25))) := bel_alloc _ _
  have KX : Hid (Blk (w.alloc (.cells #[.int .u64 S, .slice A R cap] 25)) w.heap.size 25 #[.int .u64 S, .slice A R cap]) := Blk.new _ _ _
  clear hv hr ok
  have ENTER : True := trivial
  by_cases c1 : i < 0
  · have HE : Hid (atG S s R n i = 0) := atG_out (by omega)
    go_enter Try.func18, Try.ntmps18
    go_wp2_with fail
    refine (RC.out _ BX.out).mono ?_
    rintro e u1 ⟨rfl, b1⟩
    go_wp2_with fail
    go_ret
    exact ⟨ret_int HE.out.symm, bel_trans BX.out b1⟩
  by_cases c2 : i < (R : Int)
  rotate_left
  · have HE : Hid (atG S s R n i = 0) := atG_out (by omega)
    go_enter Try.func18, Try.ntmps18
    go_wp2_with fail
    refine (RC.out _ BX.out).mono ?_
    rintro e u1 ⟨rfl, b1⟩
    have x2 : u1.cell? ⟨w.heap.size, 1, none⟩ = some (.slice A R cap) := (KX.out.since b1).cell 1
    have c3 : i ≥ (R : Int) := by omega
    go_wp2_with fail
    go_ret
    exact ⟨ret_int HE.out.symm, bel_trans BX.out b1⟩
  obtain ⟨k, rfl⟩ : ∃ k : Nat, i = k := ⟨i.toNat, by omega⟩
  have hk : k < R := by omega
  have HE : Hid (atG S s R n (k : Int) = (cellN S s n k : Int)) := atG_in hk
  go_enter Try.func18, Try.ntmps18
  go_wp2_with fail
  refine (RC.out _ BX.out).mono ?_
  rintro e u1 ⟨rfl, b1⟩
  have B1 : Hid (Below w.heap.size w u1) := bel_trans BX.out b1
  have x0 : u1.cell? ⟨w.heap.size, 0, none⟩ = some (.int .u64 S) := (KX.out.since b1).cell 0
  have x2 : u1.cell? ⟨w.heap.size, 1, none⟩ = some (.slice A R cap) := (KX.out.since b1).cell 1
  have c3 : ¬ (k : Int) ≥ (R : Int) := by omega
  clear b1
  go_wp2_with fail
  refine (CE.out _ B1.out k hk).mono ?_
  rintro e u2 ⟨rfl, b2⟩
  go_wp2_with fail
  go_ret
  exact ⟨ret_int HE.out.symm, bel_trans B1.out b2⟩
def AlikeG (S : Int) (R n : Nat) (S' : Int) (R' n' : Nat) : Prop := S = S' ∧ R = R' ∧ n = n'
set_option maxHeartbeats 3200000 in
theorem galike_any (w : World) (x y : Value) (S S' : Int) (R R' n n' : Nat) (Z Y : Nat → Nat → Int) (h : SgAt w x S R (fun _ => n) Z) (h' : SgAt w y S' R' (fun _ => n') Y) (r1 : 1 ≤ R) (r2 : 1 ≤ R') :
    Calls Try.prog 38 #[x, y] w (TellsB w (AlikeG S R n S' R' n')) := by
  obtain ⟨v, rfl, hv⟩ := h
  obtain ⟨A, cap, b, o, rfl, hc, hr⟩ := hv.read
  obtain ⟨v', rfl, hv'⟩ := h'
  obtain ⟨A', cap', b', o', rfl, hc', hr'⟩ := hv'.read
  have BX : Hid (Below w.heap.size w ((w.alloc (.cells #[.int .u64 S, .slice A R cap] 25)).alloc (.cells #[.int .u64 S', .slice A' R' cap'] 25))) := (bel_alloc _ _).alloc (by simp) _
  have KX : Hid (Blk ((w.alloc (.cells #[.int .u64 S, .slice A R cap] 25)).alloc (.cells #[.int .u64 S', .slice A' R' cap'] 25)) w.heap.size 25 #[.int .u64 S, .slice A R cap]) := (Blk.new _ _ _).alloc _
  have KY : Hid (Blk ((w.alloc (.cells #[.int .u64 S, .slice A R cap] 25)).alloc (.cells #[.int .u64 S', .slice A' R' cap'] 25)) (w.heap.size + 1) 25 #[.int .u64 S', .slice A' R' cap']) := by
    have e := Blk.new (w.alloc (.cells #[.int .u64 S, .slice A R cap] 25)) 25 #[.int .u64 S', .slice A' R' cap']
    simp only [World.size_alloc] at e
    exact e
  obtain ⟨rfl, A0, cap0, b0, o0, c0, _⟩ := hr 0 (by omega)
  obtain ⟨rfl, A1, cap1, b1, o1, c1, _⟩ := hr' 0 (by omega)
  rw [Nat.add_zero] at c0 c1
  have C0 : Hid (((w.alloc (.cells #[.int .u64 S, .slice (some ⟨b, o, none⟩) R cap] 25)).alloc (.cells #[.int .u64 S', .slice (some ⟨b', o', none⟩) R' cap'] 25)).cell? ⟨b, o, none⟩ = some (.slice A0 n cap0)) := keep_of_below BX.out _ _ c0
  have C1 : Hid (((w.alloc (.cells #[.int .u64 S, .slice (some ⟨b, o, none⟩) R cap] 25)).alloc (.cells #[.int .u64 S', .slice (some ⟨b', o', none⟩) R' cap'] 25)).cell? ⟨b', o', none⟩ = some (.slice A1 n' cap1)) := keep_of_below BX.out _ _ c1
  have i1 : (0 : Int) < (R : Int) := by omega
  have i2 : (0 : Int) < (R' : Int) := by omega
  clear hv hv' hr hr' c0 c1
  by_cases k0 : S = S'
  rotate_left
  · have HN : Hid (¬ S = S') := k0
    have q0 : (S == S') = false := by simp; first | exact k0 | omega
    clear k0
    go_enter Try.func38, Try.ntmps38
    go_wp2_with fail
    generalize (w.alloc (.cells #[.int .u64 S, .slice (some ⟨b, o, none⟩) R cap] 25)).alloc (.cells #[.int .u64 S', .slice (some ⟨b', o', none⟩) R' cap'] 25) = W at *
    have c0 := C0.out
    have c1 := C1.out
    have x0 : W.cell? ⟨w.heap.size, 0, none⟩ = some (.int .u64 S) := KX.out.cell 0
    have x2 : W.cell? ⟨w.heap.size, 1, none⟩ = some (.slice (some ⟨b, o, none⟩) R cap) := KX.out.cell 1
    have y0 : W.cell? ⟨w.heap.size + 1, 0, none⟩ = some (.int .u64 S') := KY.out.cell 0
    have y2 : W.cell? ⟨w.heap.size + 1, 1, none⟩ = some (.slice (some ⟨b', o', none⟩) R' cap') := KY.out.cell 1
    go_quiet (fail)
    go_wp2_with fail
    go_ret
    exact ⟨false, rfl, ⟨fun h => (by cases h), fun h => absurd h.1 HN.out⟩, below_drewN BX.out nq⟩
  have H0 : Hid (S = S') := k0
  have q0 : (S == S') = true := by simp; first | exact k0 | omega
  clear k0
  by_cases k1 : R = R'
  rotate_left
  · have HN : Hid (¬ R = R') := k1
    have q1 : ((R : Int) == (R' : Int)) = false := by simp; first | exact k1 | omega
    clear k1
    go_enter Try.func38, Try.ntmps38
    go_wp2_with fail
    generalize (w.alloc (.cells #[.int .u64 S, .slice (some ⟨b, o, none⟩) R cap] 25)).alloc (.cells #[.int .u64 S', .slice (some ⟨b', o', none⟩) R' cap'] 25) = W at *
    have c0 := C0.out
    have c1 := C1.out
    have x0 : W.cell? ⟨w.heap.size, 0, none⟩ = some (.int .u64 S) := KX.out.cell 0
    have x2 : W.cell? ⟨w.heap.size, 1, none⟩ = some (.slice (some ⟨b, o, none⟩) R cap) := KX.out.cell 1
    have y0 : W.cell? ⟨w.heap.size + 1, 0, none⟩ = some (.int .u64 S') := KY.out.cell 0
    have y2 : W.cell? ⟨w.heap.size + 1, 1, none⟩ = some (.slice (some ⟨b', o', none⟩) R' cap') := KY.out.cell 1
    go_quiet (fail)
    go_wp2_with fail
    go_ret
    exact ⟨false, rfl, ⟨fun h => (by cases h), fun h => absurd h.2.1 HN.out⟩, below_drewN BX.out nq⟩
  have H1 : Hid (R = R') := k1
  have q1 : ((R : Int) == (R' : Int)) = true := by simp; first | exact k1 | omega
  clear k1
  by_cases k2 : n = n'
  rotate_left
  · have HN : Hid (¬ n = n') := k2
    have q2 : ((n : Int) == (n' : Int)) = false := by simp; first | exact k2 | omega
    clear k2
    go_enter Try.func38, Try.ntmps38
    go_wp2_with fail
    generalize (w.alloc (.cells #[.int .u64 S, .slice (some ⟨b, o, none⟩) R cap] 25)).alloc (.cells #[.int .u64 S', .slice (some ⟨b', o', none⟩) R' cap'] 25) = W at *
    have c0 := C0.out
    have c1 := C1.out
    have x0 : W.cell? ⟨w.heap.size, 0, none⟩ = some (.int .u64 S) := KX.out.cell 0
    have x2 : W.cell? ⟨w.heap.size, 1, none⟩ = some (.slice (some ⟨b, o, none⟩) R cap) := KX.out.cell 1
    have y0 : W.cell? ⟨w.heap.size + 1, 0, none⟩ = some (.int .u64 S') := KY.out.cell 0
    have y2 : W.cell? ⟨w.heap.size + 1, 1, none⟩ = some (.slice (some ⟨b', o', none⟩) R' cap') := KY.out.cell 1
    go_quiet (fail)
    go_wp2_with fail
    go_ret
    exact ⟨false, rfl, ⟨fun h => (by cases h), fun h => absurd h.2.2 HN.out⟩, below_drewN BX.out nq⟩
  have H2 : Hid (n = n') := k2
  have q2 : ((n : Int) == (n' : Int)) = true := by simp; first | exact k2 | omega
  clear k2
  go_enter Try.func38, Try.ntmps38
  go_wp2_with fail
  generalize (w.alloc (.cells #[.int .u64 S, .slice (some ⟨b, o, none⟩) R cap] 25)).alloc (.cells #[.int .u64 S', .slice (some ⟨b', o', none⟩) R' cap'] 25) = W at *
  have c0 := C0.out
  have c1 := C1.out
  have x0 : W.cell? ⟨w.heap.size, 0, none⟩ = some (.int .u64 S) := KX.out.cell 0
  have x2 : W.cell? ⟨w.heap.size, 1, none⟩ = some (.slice (some ⟨b, o, none⟩) R cap) := KX.out.cell 1
  have y0 : W.cell? ⟨w.heap.size + 1, 0, none⟩ = some (.int .u64 S') := KY.out.cell 0
  have y2 : W.cell? ⟨w.heap.size + 1, 1, none⟩ = some (.slice (some ⟨b', o', none⟩) R' cap') := KY.out.cell 1
  go_quiet (fail)
  go_wp2_with fail
  go_ret
  exact ⟨true, rfl, ⟨fun _ => ⟨H0.out, H1.out, H2.out⟩, fun _ => rfl⟩, below_drewN BX.out nq⟩
end Go.Proofs.Ytpjpgcjlbfgkdaa
