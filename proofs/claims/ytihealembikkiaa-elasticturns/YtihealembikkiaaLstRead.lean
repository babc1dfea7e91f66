
/-
  Right, cell, Get and alike of layer 11 (least): what they answer.
-/
import Derived.Test.YtihealembikkiaaLstMem
import Derived.BigQuiet
namespace Go.Proofs.Ytihealembikkiaa
open Go.RowKit Fm Bl Lt L2 Go.Deep
set_option linter.unusedVariables false
set_option maxRecDepth 20000

set_option maxHeartbeats 1600000 in
theorem right_any (w : World) (x : Value) (S M : Int) (R : Nat) (L : Nat → Nat) (Z : Nat → Nat → Int) (h : SkAt w x S M R L Z) (hR : R ≤ 1000) (hL : ∀ i, i < R → L i ≤ 1000) :
    Calls Try.prog 57 #[x] w (TellsB w (RightP M R L Z)) := by
  obtain ⟨v, rfl, hv⟩ := h
  obtain ⟨A, cap, b, o, rfl, hc, hr⟩ := hv.read
  have BX : Hid (Below w.heap.size w (w.alloc (.cells #[.int .u64 S, .int .i64 M, .slice A R cap] 26))) := bel_alloc _ _
  have KX : Hid (Blk (w.alloc (.cells #[.int .u64 S, .int .i64 M, .slice A R cap] 26)) w.heap.size 26 #[.int .u64 S, .int .i64 M, .slice A R cap]) := Blk.new _ _ _
  have RC : Hid (RowsCells (w.alloc (.cells #[.int .u64 S, .int .i64 M, .slice A R cap] 26)) A R b o L Z) := RowsCells.keep hr (keep_of_below BX.out)
  have HL : Hid (∀ i, i < R → L i ≤ 1000) := hL
  clear hv hr hL
  by_cases h0 : R = 0
  · subst h0
    clear RC HL KX
    go_enter Try.func57, Try.ntmps57
    go_wp2_with fail
    go_quiet (fail)
    go_wp2_with fail
    go_ret
    exact ⟨false, rfl, ⟨fun h => (by cases h), fun h => by have := h.2.2.1; omega⟩, below_drewN BX.out nq⟩
  have hne : ((R : Int) == 0) = false := by simpa using h0
  have hix : (0 : Int) < R := by omega
  have hin : 0 < R := by omega
  clear h0
  obtain ⟨rfl, A0, cap0, b0, o0, c0, l0, f0, g0⟩ := RC.out 0 hin
  rw [Nat.add_zero] at c0
  clear l0 f0 g0
  obtain ⟨n, hn⟩ : ∃ n, n = L 0 := ⟨_, rfl⟩
  rw [← hn] at c0
  have HN : Hid (n = L 0) := hn
  have n1 : n ≤ 1000 := by rw [hn]; exact HL.out 0 hin
  clear hn
  by_cases hf : fitsL R n M = true
  rotate_left
  · have hf' : fitsL R n M = false := by simpa using hf
    have HF : Hid (fitsL R n M = false) := hf'
    clear hf RC
    go_enter Try.func57, Try.ntmps57
    go_wp2_with fail
    generalize w.alloc (.cells #[.int .u64 S, .int .i64 M, .slice (some ⟨b, o, none⟩) R cap] 26) = W at BX KX c0 ⊢
    have x1 : W.cell? ⟨w.heap.size, 1, none⟩ = some (.int .i64 M) := KX.out.cell 1
    have x2 : W.cell? ⟨w.heap.size, 2, none⟩ = some (.slice (some ⟨b, o, none⟩) R cap) := KX.out.cell 2
    go_quiet ((go_at_call 71; exact Calls.quiet_of_same (fits_any (R : Int) (n : Int) M _)))
    go_wp2_with fail
    go_ret
    refine ⟨false, rfl, ⟨fun h => (by cases h), fun h => ?_⟩, below_drewN BX.out nq⟩
    have : fitsL R n M = true := by rw [fitsL_iff, HN.out]; obtain ⟨q1, q2, q3, q4, q5, q6, _⟩ := h; omega
    rw [HF.out] at this; cases this
  have hR := (fitsL_iff _ _ _).1 hf
  have HRR : Hid (1 ≤ M ∧ M ≤ 1099511627776 ∧ 1 ≤ R ∧ R ≤ 7 ∧ 1 ≤ n ∧ n ≤ 256) := by refine ⟨?_, ?_, ?_, ?_, ?_, ?_⟩ <;> omega
  have n0 : 1 ≤ n := by omega
  clear hR
  go_enter Try.func57, Try.ntmps57
  go_wp2_with fail
  generalize w.alloc (.cells #[.int .u64 S, .int .i64 M, .slice (some ⟨b, o, none⟩) R cap] 26) = W at BX KX c0 RC ⊢
  have x1 : W.cell? ⟨w.heap.size, 1, none⟩ = some (.int .i64 M) := KX.out.cell 1
  have x2 : W.cell? ⟨w.heap.size, 2, none⟩ = some (.slice (some ⟨b, o, none⟩) R cap) := KX.out.cell 2
  go_quiet ((go_at_call 71; exact Calls.quiet_of_same (fits_any (R : Int) (n : Int) M _)))
  clear hf
  have BW : Hid (Below w.heap.size w (W.drewN nq)) := below_drewN BX.out nq
  have KW : Hid (Blk (W.drewN nq) w.heap.size 26 #[.int .u64 S, .int .i64 M, .slice (some ⟨b, o, none⟩) R cap]) := KX.out
  have RW : Hid (RowsCells (W.drewN nq) (some ⟨b, o, none⟩) R b o L Z) := RC.out
  have c0 : (W.drewN nq).cell? ⟨b, o, none⟩ = some (.slice A0 n cap0) := c0
  clear x1 x2 RC KX BX
  generalize W.drewN nq = W2 at *
  have x1 : W2.cell? ⟨w.heap.size, 1, none⟩ = some (.int .i64 M) := KW.out.cell 1
  have x2 : W2.cell? ⟨w.heap.size, 2, none⟩ = some (.slice (some ⟨b, o, none⟩) R cap) := KW.out.cell 2
  go_wp2_with fail
  go_loop [26] (fun i => ∃ k : Nat, (k ≤ R ∧ ∀ r, r < k → L r = L 0 ∧ ∀ j, j < L 0 → 0 ≤ Z r j ∧ Z r j ≤ M) ∧ i = .int .i64 (k : Int)) (fun i => R - (intOf i).toNat)
  case atStart => exact ⟨0, ⟨by omega, fun r hr => by omega⟩, rfl⟩
  case round =>
    obtain ⟨k, hk, rfl⟩ := hrel
    have HK : Hid (k ≤ R ∧ ∀ r, r < k → L r = L 0 ∧ ∀ j, j < L 0 → 0 ≤ Z r j ∧ Z r j ≤ M) := hk
    have hkR := hk.1
    clear hk
    by_cases hz : k < R
    · obtain ⟨_, A', cap', b', o', ck, lk, fk, gk⟩ := RW.out k hz
      have bk : (k : Int) < (R : Int) := by omega
      have WC : Hid (Calls Try.prog 80 #[.slice A' (L k) cap', .int .i64 M] W2 (TellsW W2 (∀ j, j < L k → 0 ≤ Z k j ∧ Z k j ≤ M))) := within_any W2 _ (L k) (Z k) M ⟨A', cap', b', o', rfl, lk, fk, gk⟩ (by have := HL.out k hz; omega)
      have lk1 := HL.out k hz
      obtain ⟨m, hm⟩ : ∃ m, m = L k := ⟨_, rfl⟩
      rw [← hm] at ck WC lk1
      have HM : Hid (m = L k) := hm
      clear lk fk gk hm
      by_cases e1 : m = n
      rotate_left
      · have e2 : ((m : Int) != (n : Int)) = true := by simp; omega
        have HE : Hid (m ≠ n) := e1
        clear e1
        go_wp2_with fail
        go_ret
        exact ⟨false, rfl, ⟨fun h => (by cases h), fun h => absurd (h.2.2.2.2.2.2 k hz).1 (by rw [← HM.out, ← HN.out]; exact HE.out)⟩, BW.out⟩
      · have e2 : ((m : Int) != (n : Int)) = false := by simp; omega
        have HE : Hid (m = n) := e1
        clear e1
        go_wp2_with fail
        refine WC.out.mono ?_
        rintro e u1 ⟨B, rfl, hB, rfl⟩
        have HB : Hid (B = true ↔ ∀ j, j < m → 0 ≤ Z k j ∧ Z k j ≤ M) := hB
        clear hB
        cases B with
        | false =>
          go_wp2_with fail
          go_ret
          refine ⟨false, rfl, ⟨fun h => (by cases h), fun h => ?_⟩, BW.out⟩
          have := HB.out.2 (by rw [HE.out, HN.out]; exact (h.2.2.2.2.2.2 k hz).2)
          cases this
        | true =>
          go_wp2_with fail
          go_round
          case rel =>
            refine ⟨k + 1, ⟨by omega, fun r hr => ?_⟩, by go_num⟩
            by_cases e : r = k
            · rw [e, ← HN.out]; exact ⟨by rw [← HM.out, HE.out], by have := HB.out.1 (by first | rfl | trivial); rw [HE.out] at this; exact this⟩
            · exact HK.out.2 r (by omega)
          case measure => simp [intOf]; omega
    · go_wp2_with fail
      go_ret
      refine ⟨true, rfl, ⟨fun _ => ?_, fun _ => rfl⟩, BW.out⟩
      obtain ⟨q1, q2, q3, q4, q5, q6⟩ := HRR.out
      rw [HN.out] at q5 q6
      exact ⟨q1, q2, q3, q4, q5, q6, fun r hr => HK.out.2 r (by omega)⟩
theorem right_yes {w : World} {x : Value} {S M : Int} {R : Nat} {L : Nat → Nat} {Z : Nat → Nat → Int} (h : SkAt w x S M R L Z) (r : RightP M R L Z) :
    Calls Try.prog 57 #[x] w fun e w' => e = .returned (.bool true) ∧ Below w.heap.size w w' := by
  have hl : ∀ i, i < R → L i ≤ 1000 := fun i hi => by have := (r.2.2.2.2.2.2 i hi).1; have := r.2.2.2.2.2.1; omega
  refine (right_any w x S M R L Z h (by have := r.2.2.2.1; omega) hl).mono ?_
  rintro e w' ⟨B, rfl, h1, h2⟩
  exact ⟨by rw [h1.2 r], h2⟩
theorem right_no {w : World} {x : Value} {S M : Int} {R : Nat} {L : Nat → Nat} {Z : Nat → Nat → Int} (h : SkAt w x S M R L Z) (hR : R ≤ 1000) (hL : ∀ i, i < R → L i ≤ 1000) (r : ¬ RightP M R L Z) :
    Calls Try.prog 57 #[x] w fun e w' => e = .returned (.bool false) ∧ Below w.heap.size w w' := by
  refine (right_any w x S M R L Z h hR hL).mono ?_
  rintro e w' ⟨B, rfl, h1, h2⟩
  refine ⟨?_, h2⟩
  cases B with
  | false => rfl
  | true => exact absurd (h1.1 rfl) r
set_option maxHeartbeats 1600000 in
theorem lcell_any (w : World) (x : Value) (S M : Int) (R n : Nat) (Z : Nat → Nat → Int) (s : ByteArray) (i : Nat) (h : SkAt w x S M R (fun _ => n) Z) (uS : U S) (hs : s.size ≤ 100000) (hi : i < R) (hR : R ≤ 1000) (hn : 1 ≤ n) (hn1 : n ≤ 1000) :
    Calls Try.prog 59 #[x, .string s, .int .i64 (i : Int)] w fun e w' => e = .returned (.int .i64 (placeN S s n i : Int)) ∧ Below w.heap.size w w' := by
  obtain ⟨v, rfl, hv⟩ := h
  obtain ⟨A, cap, b, o, rfl, hc, hr⟩ := hv.read
  have BX : Hid (Below w.heap.size w (w.alloc (.cells #[.int .u64 S, .int .i64 M, .slice A R cap] 26))) := bel_alloc _ _
  have KX : Hid (Blk (w.alloc (.cells #[.int .u64 S, .int .i64 M, .slice A R cap] 26)) w.heap.size 26 #[.int .u64 S, .int .i64 M, .slice A R cap]) := Blk.new _ _ _
  have RC : Hid (RowsCells (w.alloc (.cells #[.int .u64 S, .int .i64 M, .slice A R cap] 26)) A R b o (fun _ => n) Z) := RowsCells.keep hr (keep_of_below BX.out)
  have hix : (i : Int) < (R : Int) := by omega
  have hi0 : (0 : Int) ≤ (i : Int) := by omega
  obtain ⟨rfl, A0, cap0, b0, o0, c0, l0, f0, g0⟩ := RC.out i hi
  clear hv hr l0 f0 g0 RC
  have ur := rowF_U S i
  have HP : Hid (cellF (rowF S i) s n = (placeN S s n i : Int)) := placeN_eq S s n i hn
  generalize hQ : rowF S i = Q at HP ur
  have HQ : Hid (rowF S i = Q) := hQ
  have RO : Hid (∀ w, Calls Try.prog 48 #[.int .u64 S, .int .i64 (i : Int)] w fun e w' => e = .returned (.int .u64 Q) ∧ w' = w) := fun w => by have := row_any S i w uS (by omega); rw [HQ.out] at this; exact this
  have CE : Hid (∀ w, Calls Try.prog 76 #[.int .u64 Q, .string s, .int .i64 (n : Int)] w fun e w' => e = .returned (.int .i64 (cellF Q s n)) ∧ w' = w) := fun w => cell_any Q s n w ur (by omega) (by omega) (by omega)
  clear hQ
  go_enter Try.func59, Try.ntmps59
  go_wp2_with fail
  generalize w.alloc (.cells #[.int .u64 S, .int .i64 M, .slice (some ⟨b, o, none⟩) R cap] 26) = W at BX KX c0 ⊢
  have x0 : W.cell? ⟨w.heap.size, 0, none⟩ = some (.int .u64 S) := KX.out.cell 0
  have x2 : W.cell? ⟨w.heap.size, 2, none⟩ = some (.slice (some ⟨b, o, none⟩) R cap) := KX.out.cell 2
  go_quiet ((first | (go_at_call 48; exact Calls.quiet_of_same (RO.out _)) | (go_at_call 76; exact Calls.quiet_of_same (CE.out _))))
  go_wp2_with fail
  go_ret
  exact ⟨ret_int HP.out, below_drewN BX.out nq⟩
set_option maxHeartbeats 1600000 in
theorem get_bad (w : World) (x : Value) (S M : Int) (R : Nat) (L : Nat → Nat) (Z : Nat → Nat → Int) (s : ByteArray) (h : SkAt w x S M R L Z) (hR : R ≤ 1000) (hL : ∀ i, i < R → L i ≤ 1000) (r : ¬ RightP M R L Z) :
    Calls Try.prog 32 #[x, .string s] w fun e w' => e = .returned (.tuple #[.int .i64 0, .bool false]) ∧ Below w.heap.size w w' := by
  obtain ⟨v, rfl, hv⟩ := h
  have RC : Hid (∀ w1, Below w.heap.size w w1 → Calls Try.prog 57 #[.agg #[.int .u64 S, .int .i64 M, v]] w1 fun e w' => e = .returned (.bool false) ∧ Below w1.heap.size w1 w') := fun w1 b1 => right_no ⟨v, rfl, hv.keep (keep_of_below b1)⟩ hR hL r
  obtain ⟨A, cap, b, o, rfl, hc, hr⟩ := hv.read
  have BX : Hid (Below w.heap.size w (w.alloc (.cells #[.int .u64 S, .int .i64 M, .slice A R cap] 26))) := bel_alloc _ _
  clear hv hr hL r
  go_enter Try.func32, Try.ntmps32
  go_wp2_with fail
  refine (RC.out _ BX.out).mono ?_
  rintro e u1 ⟨rfl, b1⟩
  go_wp2_with fail
  go_returns
  exact ⟨rfl, bel_trans BX.out b1⟩
set_option maxHeartbeats 1600000 in
theorem get_ok (w : World) (x : Value) (S M : Int) (R n : Nat) (Z : Nat → Nat → Int) (s : ByteArray) (h : SkAt w x S M R (fun _ => n) Z) (ok : OkP M R n Z) (uS : U S) (hs : s.size ≤ 100000) :
    Calls Try.prog 32 #[x, .string s] w fun e w' => e = .returned (.tuple #[.int .i64 (getF M Z (placeN S s n) R), .bool (decide (getF M Z (placeN S s n) R < M))]) ∧ Below w.heap.size w w' := by
  obtain ⟨v, rfl, hv⟩ := h
  have RC : Hid (∀ w1, Below w.heap.size w w1 → Calls Try.prog 57 #[.agg #[.int .u64 S, .int .i64 M, v]] w1 fun e w' => e = .returned (.bool true) ∧ Below w1.heap.size w1 w') := fun w1 b1 => right_yes ⟨v, rfl, hv.keep (keep_of_below b1)⟩ ok.right
  have hR : R ≤ 7 := ok.2.2.2.1
  have n0 : 1 ≤ n := ok.2.2.2.2.1
  have n1 : n ≤ 256 := ok.2.2.2.2.2.1
  have CE : Hid (∀ w1, Below w.heap.size w w1 → ∀ i, i < R → Calls Try.prog 59 #[.agg #[.int .u64 S, .int .i64 M, v], .string s, .int .i64 (i : Int)] w1 fun e w' => e = .returned (.int .i64 (placeN S s n i : Int)) ∧ Below w1.heap.size w1 w') := fun w1 b1 i hi => lcell_any w1 _ S M R n Z s i ⟨v, rfl, hv.keep (keep_of_below b1)⟩ uS hs hi (by omega) n0 (by omega)
  obtain ⟨A, cap, b, o, rfl, hc, hr⟩ := hv.read
  have RW : Hid (RowsCells w A R b o (fun _ => n) Z) := hr
  have BX : Hid (Below w.heap.size w (w.alloc (.cells #[.int .u64 S, .int .i64 M, .slice A R cap] 26))) := bel_alloc _ _
  have KX : Hid (Blk (w.alloc (.cells #[.int .u64 S, .int .i64 M, .slice A R cap] 26)) w.heap.size 26 #[.int .u64 S, .int .i64 M, .slice A R cap]) := Blk.new _ _ _
  clear hv hr ok
  go_enter Try.func32, Try.ntmps32
  go_wp2_with fail
  refine (RC.out _ BX.out).mono ?_
  rintro e u1 ⟨rfl, b1⟩
  have B1 : Hid (Below w.heap.size w u1) := bel_trans BX.out b1
  have K1 : Hid (Blk u1 w.heap.size 26 #[.int .u64 S, .int .i64 M, .slice A R cap]) := KX.out.since b1
  have x1 : u1.cell? ⟨w.heap.size, 1, none⟩ = some (.int .i64 M) := K1.out.cell 1
  have x2 : u1.cell? ⟨w.heap.size, 2, none⟩ = some (.slice A R cap) := K1.out.cell 2
  clear b1 BX KX RC
  go_wp2_with fail
  clear x1 x2
  go_loopg [17, 6] R (fun gk i l wr => ∃ (k : Nat) (G : Int), (gk = R - k ∧ k ≤ R ∧ G = getF M Z (placeN S s n) k ∧ Below w.heap.size w wr ∧ Blk wr w.heap.size 26 #[.int .u64 S, .int .i64 M, .slice A R cap]) ∧ i = .int .i64 (k : Int) ∧ l = .int .i64 G)
  case atStart => exact ⟨0, M, ⟨rfl, by omega, rfl, B1.out, K1.out⟩, rfl, rfl⟩
  case round =>
    clear B1 K1
    obtain ⟨k, G, ⟨hg, hk, hG, hB, hX⟩, rfl, rfl⟩ := hrel
    have HK : Hid (gk = R - k ∧ G = getF M Z (placeN S s n) k ∧ Below w.heap.size w wr ∧ Blk wr w.heap.size 26 #[.int .u64 S, .int .i64 M, .slice A R cap]) := ⟨hg, hG, hB, hX⟩
    have x0 : wr.cell? ⟨w.heap.size, 0, none⟩ = some (.int .u64 S) := hX.cell 0
    have x1 : wr.cell? ⟨w.heap.size, 1, none⟩ = some (.int .i64 M) := hX.cell 1
    have x2 : wr.cell? ⟨w.heap.size, 2, none⟩ = some (.slice A R cap) := hX.cell 2
    by_cases hlt : k < R
    · obtain ⟨rfl, A', cap', b', o', ck, lk, fk, gk'⟩ := RW.out k hlt
      obtain rfl := fk (by show 0 < n; omega)
      have ck := keep_of_below hB _ _ ck
      have bk : (k : Int) < (R : Int) := by omega
      have b0 : (0 : Int) ≤ (k : Int) := by omega
      obtain ⟨P, hP⟩ : ∃ P, P = placeN S s n k := ⟨_, rfl⟩
      have pl : P < n := by rw [hP]; exact placeN_lt S s n k n0
      have cp := gk' P pl
      obtain ⟨z, hz⟩ : ∃ z, z = Z k P := ⟨_, rfl⟩
      rw [← hz] at cp
      have HZ : Hid (z = Z k P ∧ P = placeN S s n k) := ⟨hz, hP⟩
      have pb : (P : Int) < (n : Int) := by omega
      have CP : Hid (w.cell? ⟨b', o' + P, none⟩ = some (.int .i64 z)) := cp
      have CK := CE.out wr hB k hlt
      rw [← hP] at CK
      have CK : Hid (Calls Try.prog 59 #[.agg #[.int .u64 S, .int .i64 M, .slice (some ⟨b, o, none⟩) R cap], .string s, .int .i64 (k : Int)] wr fun e w' => e = .returned (.int .i64 (P : Int)) ∧ Below wr.heap.size wr w') := CK
      clear hg hG hB hX hP hz cp gk' lk
      go_wp2_with fail
      refine CK.out.mono ?_
      rintro e u2 ⟨rfl, b2⟩
      have B2 : Hid (Below w.heap.size w u2) := bel_trans HK.out.2.2.1 b2
      have K2 : Hid (Blk u2 w.heap.size 26 #[.int .u64 S, .int .i64 M, .slice (some ⟨b, o, none⟩) R cap]) := HK.out.2.2.2.since b2
      have cp : u2.cell? ⟨b', o' + P, none⟩ = some (.int .i64 z) := keep_of_below B2.out _ _ CP.out
      clear b2 x0 x1 x2 ck
      by_cases hm : z < G
      · have hm' : ¬ G ≤ z := by omega
        go_wp2_with fail
        go_roundg (R - (k + 1))
        case measure => have := HK.out.1; omega
        case rel =>
          refine ⟨k + 1, z, ⟨rfl, by omega, ?_, B2.out, K2.out⟩, by go_num, by first | rfl | go_num⟩
          show z = if Z k (placeN S s n k) < getF M Z (placeN S s n) k then Z k (placeN S s n k) else getF M Z (placeN S s n) k
          rw [← HK.out.2.1, ← HZ.out.2, ← HZ.out.1, if_pos hm]
      · have hm' : G ≤ z := by omega
        go_wp2_with fail
        go_roundg (R - (k + 1))
        case measure => have := HK.out.1; omega
        case rel =>
          refine ⟨k + 1, G, ⟨rfl, by omega, ?_, B2.out, K2.out⟩, by go_num, by first | rfl | go_num⟩
          show G = if Z k (placeN S s n k) < getF M Z (placeN S s n) k then Z k (placeN S s n k) else getF M Z (placeN S s n) k
          rw [← HK.out.2.1, ← HZ.out.2, ← HZ.out.1, if_neg (by omega)]
    · have HE : Hid (k = R) := (by omega : k = R)
      have b1 : ¬ (k : Int) < (R : Int) := by omega
      clear hg hG hB hX
      go_wp2_with fail
      go_quiet (fail)
      go_wp2_with fail
      go_returns
      have e := HK.out.2.1
      rw [HE.out] at e
      exact ⟨by rw [← e]; rfl, below_drewN HK.out.2.2.1 nq⟩
end Go.Proofs.Ytihealembikkiaa
