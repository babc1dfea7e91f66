
/-
  The map of the document (layer 13): what its functions that make no rows answer.
-/
import Derived.Test.YtkfhofgmjhnknaaDoorBtmMem
import Derived.Test.YtkfhofgmjhnknaaDoorRegKit
import Derived.BigQuiet
import Derived.Deep.RegionWith
namespace Go.Proofs.YtkfhofgmjhnknaaDoor
open Go.RowKit Fm Bl Bm L2 Go.Deep
set_option linter.unusedVariables false

/-- How often a number can be halved, at most so often. -/
def halfN : Nat → Nat → Nat
  | _, 0 => 0
  | x, m + 1 => if x % 2 = 0 then halfN (x / 2) m + 1 else 0
theorem halfN_zero : ∀ m, halfN 0 m = m
  | 0 => rfl
  | m + 1 => by rw [halfN, if_pos rfl, show 0 / 2 = 0 from rfl, halfN_zero m]
theorem halfN_ctz : ∀ f x m, 0 < x → x < 2 ^ f → halfN x m = min (Lib.ctzFrom f x) m
  | 0, x, m, h0, h => by simp at h; omega
  | f + 1, x, 0, h0, h => by rw [halfN]; omega
  | f + 1, x, m + 1, h0, h => by
    rw [halfN, Lib.ctzFrom]
    by_cases e : x % 2 = 0
    · rw [if_pos e, if_neg (by omega), halfN_ctz f (x / 2) m (by omega) (by rw [Nat.pow_succ] at h; omega)]
      omega
    · rw [if_neg e, if_pos (by omega)]
      omega
theorem halfN_le : ∀ m x, halfN x m ≤ m
  | 0, x => by rw [halfN]; omega
  | m + 1, x => by
    have := halfN_le m (x / 2)
    rw [halfN]
    split <;> omega
theorem level_half (a : Int) (s : ByteArray) (m : Nat) : levelF a s m = (halfN (sumF a s).toNat m : Int) := by
  have h0 := sumF_nn a s
  have h1 := sumF_lt a s
  unfold levelF ctzF
  by_cases e : sumF a s = 0
  · rw [if_pos e, e]
    show max (m : Int) 0 = (halfN 0 m : Int)
    rw [halfN_zero]
    omega
  · rw [if_neg e, halfN_ctz 64 (sumF a s).toNat m (by omega) (by omega)]
    unfold Lib.ctz
    rw [if_neg (by omega)]
    omega
set_option maxHeartbeats 1600000 in
theorem rlevel_any (a : Int) (s : ByteArray) (m : Nat) (w : World) (ha : U a) (hs : s.size ≤ 100000) (hm : m ≤ 1000) :
    Calls Tryd.prog 30 #[.int .u64 a, .string s, .int .i64 (m : Int)] w fun e w' => e = .returned (.int .i64 (levelF a s m)) ∧ Below w.heap.size w w' := by
  have SUM := L2.rsum_any a s w ha hs
  have h0 := sumF_nn a s
  have h1 := sumF_lt a s
  have HL : Hid (levelF a s m = (halfN (sumF a s).toNat m : Int)) := level_half a s m
  obtain ⟨X, hX⟩ : ∃ X : Nat, sumF a s = (X : Int) := ⟨(sumF a s).toNat, by omega⟩
  rw [HL.out]
  clear HL
  rw [hX] at SUM h1 ⊢
  rw [Int.toNat_natCast]
  have X1 : X < 2305843009213693951 := by omega
  obtain ⟨T, hT⟩ : ∃ T, T = halfN X m := ⟨_, rfl⟩
  rw [← hT]
  have HT : Hid (T = halfN X m) := hT
  clear hX hT h0 h1
  go_enter Tryd.func30, Tryd.ntmps30
  go_wp2_with fail
  refine SUM.mono ?_
  rintro e u1 ⟨rfl, b1⟩
  have B1 : Hid (Below w.heap.size w u1) := b1
  clear b1
  go_wp2_with fail
  go_loop [7, 8] (fun i x => ∃ k x0 : Nat, (k ≤ m ∧ x0 < 2305843009213693951 ∧ k + halfN x0 (m - k) = T) ∧ i = .int .i64 (k : Int) ∧ x = .int .u64 (x0 : Int)) (fun i x => m - (intOf i).toNat)
  case atStart => exact ⟨0, X, ⟨by omega, X1, by rw [Nat.zero_add, Nat.sub_zero]; exact HT.out.symm⟩, rfl, rfl⟩
  case round =>
    obtain ⟨k, x0, ⟨hk, hx, hE⟩, rfl, rfl⟩ := hrel
    have HE : Hid (k + halfN x0 (m - k) = T) := hE
    clear hE
    by_cases hz : k < m
    · have bk : (k : Int) < (m : Int) := by omega
      by_cases e : x0 % 2 = 0
      · have e2 : ((x0 : Int) % 2 == 0) = true := by simp; omega
        have HN : Hid ((k + 1) + halfN (x0 / 2) (m - (k + 1)) = T) := by
          have := HE.out
          rw [show m - k = (m - (k + 1)) + 1 by omega, halfN, if_pos e] at this
          show k + 1 + halfN (x0 / 2) (m - (k + 1)) = T
          omega
        obtain ⟨y, hy⟩ : ∃ y, y = x0 / 2 := ⟨_, rfl⟩
        have dy : (x0 : Int) / 2 = (y : Int) := by omega
        have y1 : y < 2305843009213693951 := by omega
        rw [← hy] at HN
        clear hy e
        go_wp2_with fail
        go_round
        case rel => exact ⟨k + 1, y, ⟨by omega, y1, HN.out⟩, by go_num, by go_num⟩
        case measure => simp [intOf]; omega
      · have e2 : ((x0 : Int) % 2 == 0) = false := by simp; omega
        have HN : Hid (k = T) := by
          have := HE.out
          rw [show m - k = (m - (k + 1)) + 1 by omega, halfN, if_neg e] at this
          show k = T
          omega
        clear e
        go_wp2_with fail
        go_ret
        exact ⟨ret_int (by rw [HN.out]), B1.out⟩
    · have bk : ¬ (k : Int) < (m : Int) := by omega
      have HN : Hid (k = T) := by
        have := HE.out
        rw [show m - k = 0 by omega, halfN] at this
        exact this
      go_wp2_with fail
      go_ret
      exact ⟨ret_int (by rw [HN.out]), B1.out⟩
def SmallM (R : Nat) (L : Nat → Nat) : Prop := R < 20 ∧ ∀ i, i < R → L i ≤ 300
set_option maxHeartbeats 1600000 in
theorem rsmall_any (w : World) (x : Value) (S : Int) (R : Nat) (L : Nat → Nat) (Z : Nat → Nat → Bool) (h : MpAt w x S R L Z) (hR : R ≤ 9223372036854775807) :
    Calls Tryd.prog 14 #[x] w (TellsB w (SmallM R L)) := by
  obtain ⟨v, rfl, hv⟩ := h
  obtain ⟨A, cap, b, o, rfl, hc, hr⟩ := hv.read
  have BX : Hid (Below w.heap.size w (w.alloc (.cells #[.int .u64 S, .slice A R cap] 30))) := bel_alloc _ _
  have KX : Hid (Blk (w.alloc (.cells #[.int .u64 S, .slice A R cap] 30)) w.heap.size 30 #[.int .u64 S, .slice A R cap]) := Blk.new _ _ _
  have RC : Hid (RowsCells (w.alloc (.cells #[.int .u64 S, .slice A R cap] 30)) A R b o L Z) := RowsCells.keep hr (keep_of_below BX.out)
  clear hv hr
  go_enter Tryd.func14, Tryd.ntmps14
  go_wp2_with fail
  generalize w.alloc (.cells #[.int .u64 S, .slice A R cap] 30) = W at BX KX RC ⊢
  have x2 : W.cell? ⟨w.heap.size, 1, none⟩ = some (.slice A R cap) := KX.out.cell 1
  go_wp2_with fail
  go_loop [3] (fun i => ∃ k : Nat, (k ≤ R ∧ ∀ r, r < k → L r ≤ 300) ∧ i = .int .i64 (k : Int)) (fun i => R - (intOf i).toNat)
  case atStart => exact ⟨0, ⟨by omega, fun r hr => by omega⟩, rfl⟩
  case round =>
    obtain ⟨k, hk, rfl⟩ := hrel
    have HK : Hid (k ≤ R ∧ ∀ r, r < k → L r ≤ 300) := hk
    have hkR := hk.1
    clear hk
    by_cases hz : k < R
    · obtain ⟨rfl, A', cap', b', o', ck, _⟩ := RC.out k hz
      have bk : (k : Int) < (R : Int) := by omega
      have bk0 : (0 : Int) ≤ (k : Int) := by omega
      obtain ⟨m, hm⟩ : ∃ m, m = L k := ⟨_, rfl⟩
      rw [← hm] at ck
      have HM : Hid (m = L k) := hm
      clear hm
      by_cases e1 : m ≤ 300
      rotate_left
      · have e2 : (m : Int) > 300 := by omega
        go_wp2_with fail
        go_ret
        exact ⟨false, rfl, ⟨fun h => (by cases h), fun h => by have := h.2 k hz; rw [← HM.out] at this; omega⟩, BX.out⟩
      have e2 : ¬ (m : Int) > 300 := by omega
      go_wp2_with fail
      go_round
      case rel =>
        refine ⟨k + 1, ⟨by omega, fun r hr => ?_⟩, by go_num⟩
        by_cases e : r = k
        · rw [e, ← HM.out]; omega
        · exact HK.out.2 r (by omega)
      case measure => simp [intOf]; omega
    · have bk : ¬ (k : Int) < (R : Int) := by omega
      by_cases e : R < 20
      · have e2 : (R : Int) < 20 := by omega
        go_wp2_with fail
        go_ret
        exact ⟨true, by first | rfl | simp [e], ⟨fun _ => ⟨e, fun r hr => HK.out.2 r (by omega)⟩, fun _ => rfl⟩, BX.out⟩
      · have e2 : ¬ (R : Int) < 20 := by omega
        go_wp2_with fail
        go_ret
        exact ⟨false, by first | rfl | simp [e], ⟨fun h => (by cases h), fun h => absurd h.1 (by omega)⟩, BX.out⟩
set_option maxHeartbeats 1600000 in
theorem rright_any (w : World) (x : Value) (S : Int) (R : Nat) (L : Nat → Nat) (Z : Nat → Nat → Bool) (h : MpAt w x S R L Z) (hR : R ≤ 1000) (hL : ∀ i, i < R → L i ≤ 1000) :
    Calls Tryd.prog 12 #[x] w (TellsB w (RightM R L)) := by
  have HL : Hid (∀ i, i < R → L i ≤ 1000) := hL
  clear hL
  obtain ⟨v, rfl, hv⟩ := h
  obtain ⟨A, cap, b, o, rfl, hc, hr⟩ := hv.read
  have BX : Hid (Below w.heap.size w (w.alloc (.cells #[.int .u64 S, .slice A R cap] 30))) := bel_alloc _ _
  have KX : Hid (Blk (w.alloc (.cells #[.int .u64 S, .slice A R cap] 30)) w.heap.size 30 #[.int .u64 S, .slice A R cap]) := Blk.new _ _ _
  have RC : Hid (RowsCells (w.alloc (.cells #[.int .u64 S, .slice A R cap] 30)) A R b o L Z) := RowsCells.keep hr (keep_of_below BX.out)
  clear hv hr
  go_enter Tryd.func12, Tryd.ntmps12
  go_wp2_with fail
  generalize w.alloc (.cells #[.int .u64 S, .slice A R cap] 30) = W at BX KX RC ⊢
  have x2 : W.cell? ⟨w.heap.size, 1, none⟩ = some (.slice A R cap) := KX.out.cell 1
  go_wp2_with fail
  go_loop [3] (fun i => ∃ k : Nat, (k ≤ R ∧ ∀ r, r < k → 1 ≤ L r ∧ L r ≤ 256 ∧ L r = L 0) ∧ i = .int .i64 (k : Int)) (fun i => R - (intOf i).toNat)
  case atStart => exact ⟨0, ⟨by omega, fun r hr => by omega⟩, rfl⟩
  case round =>
    obtain ⟨k, hk, rfl⟩ := hrel
    have HK : Hid (k ≤ R ∧ ∀ r, r < k → 1 ≤ L r ∧ L r ≤ 256 ∧ L r = L 0) := hk
    have hkR := hk.1
    clear hk
    by_cases hz : k < R
    · obtain ⟨rfl, A', cap', b', o', ck, _⟩ := RC.out k hz
      obtain ⟨_, A0, cap0, b0, o0, c0, _⟩ := RC.out 0 (by omega)
      rw [Nat.add_zero] at c0
      have lk1 := HL.out k hz
      have lk0 := HL.out 0 (by omega)
      have bk : (k : Int) < (R : Int) := by omega
      have bk0 : (0 : Int) ≤ (k : Int) := by omega
      have bR : (0 : Int) < (R : Int) := by omega
      obtain ⟨m, hm⟩ : ∃ m, m = L k := ⟨_, rfl⟩
      obtain ⟨n, hn⟩ : ∃ n, n = L 0 := ⟨_, rfl⟩
      rw [← hm] at ck lk1
      rw [← hn] at c0 lk0
      have HM : Hid (m = L k ∧ n = L 0) := ⟨hm, hn⟩
      clear hm hn
      by_cases e1 : m = 0
      · have e2 : ((m : Int) == 0) = true := by simp; omega
        have HE : Hid (m = 0) := e1
        clear e1
        go_wp2_with fail
        go_ret
        exact ⟨false, rfl, ⟨fun h => (by cases h), fun h => by have a1 := h.2.2.2.2 k hz; have a2 := h.2.2.1; rw [← HM.out.1] at a1; have := HE.out; omega⟩, BX.out⟩
      have e2 : ((m : Int) == 0) = false := by simp; omega
      by_cases e3 : (m : Int) > 256
      · go_wp2_with fail
        go_ret
        exact ⟨false, rfl, ⟨fun h => (by cases h), fun h => by have a1 := h.2.2.2.2 k hz; have a2 := h.2.2.2.1; rw [← HM.out.1] at a1; omega⟩, BX.out⟩
      by_cases e4 : m = n
      rotate_left
      · have e5 : ((m : Int) != (n : Int)) = true := by simp; omega
        have HE : Hid (m ≠ n) := e4
        clear e4
        go_wp2_with fail
        go_ret
        exact ⟨false, rfl, ⟨fun h => (by cases h), fun h => absurd (h.2.2.2.2 k hz) (by rw [← HM.out.1, ← HM.out.2]; exact HE.out)⟩, BX.out⟩
      have e5 : ((m : Int) != (n : Int)) = false := by simp; omega
      have HE : Hid (m = n ∧ 1 ≤ m ∧ m ≤ 256) := ⟨e4, by omega, by omega⟩
      clear e4
      go_wp2_with fail
      go_round
      case rel =>
        refine ⟨k + 1, ⟨by omega, fun r hr => ?_⟩, by go_num⟩
        by_cases e : r = k
        · rw [e, ← HM.out.1, ← HM.out.2]; exact ⟨HE.out.2.1, HE.out.2.2, HE.out.1⟩
        · exact HK.out.2 r (by omega)
      case measure => simp [intOf]; omega
    · have bk : ¬ (k : Int) < (R : Int) := by omega
      by_cases e : 0 < R
      rotate_left
      · have e2 : ¬ (R : Int) > 0 := by omega
        have HE : Hid (¬ 0 < R) := e
        clear e
        go_wp2_with fail
        go_ret
        exact ⟨false, by first | rfl | simp, ⟨fun h => (by cases h), fun h => absurd h.1 HE.out⟩, BX.out⟩
      have e2 : (R : Int) > 0 := by omega
      by_cases e3 : R < 17
      · have e4 : (R : Int) < 17 := by omega
        go_wp2_with fail
        go_ret
        exact ⟨true, by first | rfl | simp [e3], ⟨fun _ => ⟨by omega, by omega, (HK.out.2 0 (by omega)).1, (HK.out.2 0 (by omega)).2.1, fun r hr => (HK.out.2 r (by omega)).2.2⟩, fun _ => rfl⟩, BX.out⟩
      · have e4 : ¬ (R : Int) < 17 := by omega
        go_wp2_with fail
        go_ret
        exact ⟨false, by first | rfl | simp [e3], ⟨fun h => (by cases h), fun h => absurd h.2.1 (by omega)⟩, BX.out⟩
set_option maxHeartbeats 3200000 in
theorem rplace_any (w : World) (x : Value) (S : Int) (R n : Nat) (Z : Nat → Nat → Bool) (s : ByteArray) (h : MpAt w x S R (fun _ => n) Z) (ok : OkM R n) (uS : U S) (hs : s.size ≤ 100000) :
    Calls Tryd.prog 18 #[x, .string s] w fun e w' => e = .returned (.tuple #[.int .i64 (lineN S s R : Int), .int .i64 (bitN S s n : Int)]) ∧ Below w.heap.size w w' := by
  obtain ⟨r1, r16, n1, n256⟩ := ok
  obtain ⟨v, rfl, hv⟩ := h
  obtain ⟨A, cap, b, o, rfl, hc, hr⟩ := hv.read
  have BX : Hid (Below w.heap.size w (w.alloc (.cells #[.int .u64 S, .slice A R cap] 30))) := bel_alloc _ _
  have KX : Hid (Blk (w.alloc (.cells #[.int .u64 S, .slice A R cap] 30)) w.heap.size 30 #[.int .u64 S, .slice A R cap]) := Blk.new _ _ _
  have RC : Hid (RowsCells (w.alloc (.cells #[.int .u64 S, .slice A R cap] 30)) A R b o (fun _ => n) Z) := RowsCells.keep hr (keep_of_below BX.out)
  clear hv hr
  obtain ⟨P, hP⟩ : ∃ P, P = lineN S s R := ⟨_, rfl⟩
  obtain ⟨Q, hQ⟩ : ∃ Q, Q = bitN S s n := ⟨_, rfl⟩
  have E0 : Hid (levelF (rowF S 0) s ((R : Int) - 1) = (P : Int)) := by rw [hP]; exact lineN_eq S s R
  have E1 : Hid (cellF (rowF S 1) s n = (Q : Int)) := by rw [hQ]; exact bitN_eq S s n n1
  have u0 := rowF_U S 0
  have u1 := rowF_U S 1
  rw [← hP, ← hQ]
  clear hP hQ
  generalize hF0 : rowF S 0 = F0 at E0 u0
  generalize hF1 : rowF S 1 = F1 at E1 u1
  have RO0 : Hid (∀ w, Calls Tryd.prog 31 #[.int .u64 S, .int .i64 0] w fun e w' => e = .returned (.int .u64 F0) ∧ w' = w) := fun w => by have := rrow_any S 0 w uS (by omega); rw [← hF0]; exact this
  have RO1 : Hid (∀ w, Calls Tryd.prog 31 #[.int .u64 S, .int .i64 1] w fun e w' => e = .returned (.int .u64 F1) ∧ w' = w) := fun w => by have := rrow_any S 1 w uS (by omega); rw [← hF1]; exact this
  clear hF0 hF1
  have LE0 : Hid (∀ w1, Calls Tryd.prog 30 #[.int .u64 F0, .string s, .int .i64 ((R : Int) - 1)] w1 fun e w' => e = .returned (.int .i64 (P : Int)) ∧ Below w1.heap.size w1 w') := fun w1 => by
    have := rlevel_any F0 s (R - 1) w1 u0 hs (by omega)
    rw [show ((R - 1 : Nat) : Int) = (R : Int) - 1 by omega, E0.out] at this
    exact this
  have CE0 : Hid (∀ w1, Calls Tryd.prog 32 #[.int .u64 F1, .string s, .int .i64 (n : Int)] w1 fun e w' => e = .returned (.int .i64 (Q : Int)) ∧ Below w1.heap.size w1 w') := fun w1 => by
    have := rcell_any F1 s n w1 u1 hs n1 (by omega)
    rw [E1.out] at this
    exact this
  clear E0 E1 u0 u1
  have wr2 : IntKind.i64.wrap ((R : Int) - 1) = (R : Int) - 1 := by rw [IntKind.wrap_i64]; omega
  obtain ⟨rfl, A0, cap0, b0, o0, d0, _⟩ := RC.out 0 (by omega)
  rw [Nat.add_zero] at d0
  have i0 : (0 : Int) < (R : Int) := by omega
  have i1 : 0 < R := by omega
  go_enter Tryd.func18, Tryd.ntmps18
  go_wp2_with fail
  clear RC
  generalize w.alloc (.cells #[.int .u64 S, .slice (some ⟨b, o, none⟩) R cap] 30) = W at BX KX d0 ⊢
  have D0 : Hid (W.cell? ⟨b, o, none⟩ = some (.slice A0 n cap0)) := d0
  clear d0
  have RO0 : Hid (∀ w1, Below W.heap.size W w1 → Calls Tryd.prog 31 #[.int .u64 S, .int .i64 0] w1 fun e w' => e = .returned (.int .u64 F0) ∧ Below W.heap.size W w') := fun w1 b1 => (RO0.out w1).mono fun e w' h => ⟨h.1, by rw [h.2]; exact b1⟩
  have LE : Hid (∀ w1, Below W.heap.size W w1 → Calls Tryd.prog 30 #[.int .u64 F0, .string s, .int .i64 ((R : Int) - 1)] w1 fun e w' => e = .returned (.int .i64 (P : Int)) ∧ Below W.heap.size W w') := fun w1 b1 => (LE0.out w1).mono fun e w' h => ⟨h.1, bel_trans b1 h.2⟩
  clear LE0
  refine letterQ ?_
  intro QQ hQQ
  have Z0 : Hid (Below W.heap.size W W.drew) := (Below.refl _ _).drew
  refine wp_region_held_drew (S := fun w2 => Below W.heap.size W w2) (by kernel_rfl) Z0.out (fun hHeld => ?_)
  clear hHeld
  generalize W.drew = q0 at Z0 ⊢
  refine wpAnyH_take (i := 0) (v := ?_) rfl (by kernel_rfl) (by kernel_rfl) (by kernel_rfl) (fun _ _ _ h => h) (Or.inl ⟨by rfl, ?_⟩) Z0.out ?_
  rotate_left
  · intro wq hSw; go_simp; first | done | with_reducible rfl
  simp only [List.getElem_toArray, List.getElem_cons_zero, Act.put, List.setIfInBounds_toArray, List.set_cons_zero, List.set_cons_succ]
  refine wpAnyH_take (i := 1) (v := ?_) rfl (by kernel_rfl) (by kernel_rfl) (by kernel_rfl) (fun _ _ _ h => h) (Or.inl ⟨by rfl, ?_⟩) Z0.out ?_
  rotate_left
  · intro wq hSw; have cl0 := (KX.out.since hSw).cell 0; go_simp; first | done | with_reducible rfl
  simp only [List.getElem_toArray, List.getElem_cons_zero, List.getElem_cons_succ, Act.put, List.setIfInBounds_toArray, List.set_cons_zero, List.set_cons_succ]
  refine wpAnyH_take (i := 3) (v := ?_) rfl (by kernel_rfl) (by kernel_rfl) (by kernel_rfl) (fun _ _ _ h => h) (Or.inl ⟨by rfl, ?_⟩) Z0.out ?_
  rotate_left
  · intro wq hSw; go_simp; first | done | with_reducible rfl
  simp only [List.getElem_toArray, List.getElem_cons_zero, List.getElem_cons_succ, Act.put, List.setIfInBounds_toArray, List.set_cons_zero, List.set_cons_succ]
  refine wpAnyH_take (i := 4) (v := ?_) rfl (by kernel_rfl) (by kernel_rfl) (by kernel_rfl) (fun _ _ _ h => h) (Or.inl ⟨by rfl, ?_⟩) Z0.out ?_
  rotate_left
  · intro wq hSw; go_simp; first | done | with_reducible rfl
  simp only [List.getElem_toArray, List.getElem_cons_zero, List.getElem_cons_succ, Act.put, List.setIfInBounds_toArray, List.set_cons_zero, List.set_cons_succ]
  refine wpAnyH_take (i := 5) (v := ?_) rfl (by kernel_rfl) (by kernel_rfl) (by kernel_rfl) (fun _ _ _ h => h) (Or.inl ⟨by rfl, ?_⟩) Z0.out ?_
  rotate_left
  · intro wq hSw; have cl0 := (KX.out.since hSw).cell 1; go_simp; first | done | with_reducible rfl
  simp only [List.getElem_toArray, List.getElem_cons_zero, List.getElem_cons_succ, Act.put, List.setIfInBounds_toArray, List.set_cons_zero, List.set_cons_succ]
  refine wpAnyH_take (i := 6) (v := ?_) rfl (by kernel_rfl) (by kernel_rfl) (by kernel_rfl) (fun _ _ _ h => h) (Or.inl ⟨by rfl, ?_⟩) Z0.out ?_
  rotate_left
  · intro wq hSw; go_simp; first | done | with_reducible rfl
  simp only [List.getElem_toArray, List.getElem_cons_zero, List.getElem_cons_succ, Act.put, List.setIfInBounds_toArray, List.set_cons_zero, List.set_cons_succ]
  refine wpAnyH_take (i := 7) (v := ?_) rfl (by kernel_rfl) (by kernel_rfl) (by kernel_rfl) (fun _ _ _ h => h) (Or.inl ⟨by rfl, ?_⟩) Z0.out ?_
  rotate_left
  · intro wq hSw; go_simp; first | done | with_reducible rfl
  simp only [List.getElem_toArray, List.getElem_cons_zero, List.getElem_cons_succ, Act.put, List.setIfInBounds_toArray, List.set_cons_zero, List.set_cons_succ]
  refine wpAnyH_ready (rs := [2]) (by kernel_rfl) (by simp) ?_
  refine AllReadyH.cons rfl (fun K0 hK0 => ?_) ?_
  rotate_left
  · exact AllReadyH.nil
  refine step_func 31 #[.int .u64 S, .int .i64 0] (by rfl) rfl (by simp [Act.eval]) (fun _ _ => by kernel_rfl) ?_
  refine (RO0.out _ Z0.out).mono ?_
  rintro e q1 ⟨rfl, cc⟩
  have Z1 : Hid (Below W.heap.size W q1) := cc
  clear cc
  refine ⟨_, rfl, ?_⟩
  refine hK0.out _ _ Z1.out (fun hHeld => ?_)
  clear hK0 K0 hHeld
  simp only [Act.put, List.setIfInBounds_toArray]
  refine wpAnyH_ready (rs := [8]) (by kernel_rfl) (by simp) ?_
  refine AllReadyH.cons rfl (fun K0 hK0 => ?_) ?_
  rotate_left
  · exact AllReadyH.nil
  refine step_func 30 #[.int .u64 F0, .string s, .int .i64 ((R : Int) - 1)] (by rfl) rfl (by simp [Act.eval]) (fun _ _ => by kernel_rfl) ?_
  refine (LE.out _ Z1.out).mono ?_
  rintro e q2 ⟨rfl, cc⟩
  have Z2 : Hid (Below W.heap.size W q2) := cc
  clear cc
  refine ⟨_, rfl, ?_⟩
  refine hK0.out _ _ Z2.out (fun hHeld => ?_)
  clear hK0 K0 hHeld
  refine wpAnyH_take (i := 9) (v := ?_) rfl (by kernel_rfl) (by kernel_rfl) (by kernel_rfl) (fun _ _ _ h => h) (Or.inl ⟨by rfl, ?_⟩) Z2.out ?_
  rotate_left
  · intro wq hSw; go_simp; first | done | with_reducible rfl
  simp only [List.getElem_toArray, List.getElem_cons_zero, List.getElem_cons_succ, Act.put, List.setIfInBounds_toArray, List.set_cons_zero, List.set_cons_succ]
  refine wpAnyH_done (by kernel_rfl) ?_ _
  refine NoPanic.normal ?_
  refine hQQ.out _ _ ?_
  clear hQQ
  have BY : Hid (Below w.heap.size w q2) := bel_trans BX.out Z2.out
  have KY : Hid (Blk q2 w.heap.size 30 #[.int .u64 S, .slice (some ⟨b, o, none⟩) R cap]) := KX.out.since Z2.out
  have C0 : Hid (q2.cell? ⟨b, o, none⟩ = some (.slice A0 n cap0)) := keep_of_below Z2.out _ _ D0.out
  clear BX KX D0 Z0 Z1 Z2 RO0 LE
  generalize q2 = X at BY KY C0 ⊢
  have RO1 : Hid (∀ w1, Below X.heap.size X w1 → Calls Tryd.prog 31 #[.int .u64 S, .int .i64 1] w1 fun e w' => e = .returned (.int .u64 F1) ∧ Below X.heap.size X w') := fun w1 b1 => (RO1.out w1).mono fun e w' h => ⟨h.1, by rw [h.2]; exact b1⟩
  have CE : Hid (∀ w1, Below X.heap.size X w1 → Calls Tryd.prog 32 #[.int .u64 F1, .string s, .int .i64 (n : Int)] w1 fun e w' => e = .returned (.int .i64 (Q : Int)) ∧ Below X.heap.size X w') := fun w1 b1 => (CE0.out w1).mono fun e w' h => ⟨h.1, bel_trans b1 h.2⟩
  clear CE0
  go_wp2_with fail
  refine letterQ ?_
  intro QQ hQQ
  have Z0 : Hid (Below X.heap.size X X.drew) := (Below.refl _ _).drew
  refine wp_region_held_drew (S := fun w2 => Below X.heap.size X w2) (by kernel_rfl) Z0.out (fun hHeld => ?_)
  clear hHeld
  generalize X.drew = p0 at Z0 ⊢
  refine wpAnyH_take (i := 0) (v := ?_) rfl (by kernel_rfl) (by kernel_rfl) (by kernel_rfl) (fun _ _ _ h => h) (Or.inl ⟨by rfl, ?_⟩) Z0.out ?_
  rotate_left
  · intro wq hSw; go_simp; first | done | with_reducible rfl
  simp only [List.getElem_toArray, List.getElem_cons_zero, Act.put, List.setIfInBounds_toArray, List.set_cons_zero, List.set_cons_succ]
  refine wpAnyH_take (i := 1) (v := ?_) rfl (by kernel_rfl) (by kernel_rfl) (by kernel_rfl) (fun _ _ _ h => h) (Or.inl ⟨by rfl, ?_⟩) Z0.out ?_
  rotate_left
  · intro wq hSw; go_simp; first | done | with_reducible rfl
  simp only [List.getElem_toArray, List.getElem_cons_zero, List.getElem_cons_succ, Act.put, List.setIfInBounds_toArray, List.set_cons_zero, List.set_cons_succ]
  refine wpAnyH_take (i := 2) (v := ?_) rfl (by kernel_rfl) (by kernel_rfl) (by kernel_rfl) (fun _ _ _ h => h) (Or.inl ⟨by rfl, ?_⟩) Z0.out ?_
  rotate_left
  · intro wq hSw; have cl0 := (KY.out.since hSw).cell 0; go_simp; first | done | with_reducible rfl
  simp only [List.getElem_toArray, List.getElem_cons_zero, List.getElem_cons_succ, Act.put, List.setIfInBounds_toArray, List.set_cons_zero, List.set_cons_succ]
  refine wpAnyH_take (i := 4) (v := ?_) rfl (by kernel_rfl) (by kernel_rfl) (by kernel_rfl) (fun _ _ _ h => h) (Or.inl ⟨by rfl, ?_⟩) Z0.out ?_
  rotate_left
  · intro wq hSw; go_simp; first | done | with_reducible rfl
  simp only [List.getElem_toArray, List.getElem_cons_zero, List.getElem_cons_succ, Act.put, List.setIfInBounds_toArray, List.set_cons_zero, List.set_cons_succ]
  refine wpAnyH_take (i := 5) (v := ?_) rfl (by kernel_rfl) (by kernel_rfl) (by kernel_rfl) (fun _ _ _ h => h) (Or.inl ⟨by rfl, ?_⟩) Z0.out ?_
  rotate_left
  · intro wq hSw; go_simp; first | done | with_reducible rfl
  simp only [List.getElem_toArray, List.getElem_cons_zero, List.getElem_cons_succ, Act.put, List.setIfInBounds_toArray, List.set_cons_zero, List.set_cons_succ]
  refine wpAnyH_take (i := 6) (v := ?_) rfl (by kernel_rfl) (by kernel_rfl) (by kernel_rfl) (fun _ _ _ h => h) (Or.inl ⟨by rfl, ?_⟩) Z0.out ?_
  rotate_left
  · intro wq hSw; have cl0 := (KY.out.since hSw).cell 1; go_simp; first | done | with_reducible rfl
  simp only [List.getElem_toArray, List.getElem_cons_zero, List.getElem_cons_succ, Act.put, List.setIfInBounds_toArray, List.set_cons_zero, List.set_cons_succ]
  refine wpAnyH_take (i := 7) (v := ?_) rfl (by kernel_rfl) (by kernel_rfl) (by kernel_rfl) (fun _ _ _ h => h) (Or.inl ⟨by rfl, ?_⟩) Z0.out ?_
  rotate_left
  · intro wq hSw; go_simp; first | done | with_reducible rfl
  simp only [List.getElem_toArray, List.getElem_cons_zero, List.getElem_cons_succ, Act.put, List.setIfInBounds_toArray, List.set_cons_zero, List.set_cons_succ]
  refine wpAnyH_take (i := 8) (v := ?_) rfl (by kernel_rfl) (by kernel_rfl) (by kernel_rfl) (fun _ _ _ h => h) (Or.inl ⟨by rfl, ?_⟩) Z0.out ?_
  rotate_left
  · intro wq hSw; have cl0 := keep_of_below hSw _ _ C0.out; go_simp; first | done | with_reducible rfl
  simp only [List.getElem_toArray, List.getElem_cons_zero, List.getElem_cons_succ, Act.put, List.setIfInBounds_toArray, List.set_cons_zero, List.set_cons_succ]
  refine wpAnyH_take (i := 9) (v := ?_) rfl (by kernel_rfl) (by kernel_rfl) (by kernel_rfl) (fun _ _ _ h => h) (Or.inl ⟨by rfl, ?_⟩) Z0.out ?_
  rotate_left
  · intro wq hSw; go_simp; first | done | with_reducible rfl
  simp only [List.getElem_toArray, List.getElem_cons_zero, List.getElem_cons_succ, Act.put, List.setIfInBounds_toArray, List.set_cons_zero, List.set_cons_succ]
  refine wpAnyH_ready (rs := [3]) (by kernel_rfl) (by simp) ?_
  refine AllReadyH.cons rfl (fun K0 hK0 => ?_) ?_
  rotate_left
  · exact AllReadyH.nil
  refine step_func 31 #[.int .u64 S, .int .i64 1] (by rfl) rfl (by simp [Act.eval]) (fun _ _ => by kernel_rfl) ?_
  refine (RO1.out _ Z0.out).mono ?_
  rintro e p1 ⟨rfl, cc⟩
  have Z1 : Hid (Below X.heap.size X p1) := cc
  clear cc
  refine ⟨_, rfl, ?_⟩
  refine hK0.out _ _ Z1.out (fun hHeld => ?_)
  clear hK0 K0 hHeld
  simp only [Act.put, List.setIfInBounds_toArray]
  refine wpAnyH_ready (rs := [10]) (by kernel_rfl) (by simp) ?_
  refine AllReadyH.cons rfl (fun K0 hK0 => ?_) ?_
  rotate_left
  · exact AllReadyH.nil
  refine step_func 32 #[.int .u64 F1, .string s, .int .i64 (n : Int)] (by rfl) rfl (by simp [Act.eval]) (fun _ _ => by kernel_rfl) ?_
  refine (CE.out _ Z1.out).mono ?_
  rintro e p2 ⟨rfl, cc⟩
  have Z2 : Hid (Below X.heap.size X p2) := cc
  clear cc
  refine ⟨_, rfl, ?_⟩
  refine hK0.out _ _ Z2.out (fun hHeld => ?_)
  clear hK0 K0 hHeld
  refine wpAnyH_take (i := 11) (v := ?_) rfl (by kernel_rfl) (by kernel_rfl) (by kernel_rfl) (fun _ _ _ h => h) (Or.inl ⟨by rfl, ?_⟩) Z2.out ?_
  rotate_left
  · intro wq hSw; go_simp; first | done | with_reducible rfl
  simp only [List.getElem_toArray, List.getElem_cons_zero, List.getElem_cons_succ, Act.put, List.setIfInBounds_toArray, List.set_cons_zero, List.set_cons_succ]
  refine wpAnyH_take (i := 12) (v := ?_) rfl (by kernel_rfl) (by kernel_rfl) (by kernel_rfl) (fun _ _ _ h => h) (Or.inl ⟨by rfl, ?_⟩) Z2.out ?_
  rotate_left
  · intro wq hSw; go_simp; first | done | with_reducible rfl
  simp only [List.getElem_toArray, List.getElem_cons_zero, List.getElem_cons_succ, Act.put, List.setIfInBounds_toArray, List.set_cons_zero, List.set_cons_succ]
  refine wpAnyH_done (by kernel_rfl) ?_ _
  refine NoPanic.normal ?_
  refine hQQ.out _ _ ?_
  clear hQQ
  go_wp2_with fail
  go_returns
  exact ⟨rfl, bel_trans BY.out Z2.out⟩
theorem cntB_off {B : Nat → Bool} {k : Nat} (h : B k = false) : cntB B (k + 1) = cntB B k := by rw [cntB, h]; simp
theorem cntB_on {B : Nat → Bool} {k : Nat} (h : B k = true) : cntB B (k + 1) = cntB B k + 1 := by rw [cntB, if_pos h]
set_option maxHeartbeats 3200000 in
theorem restim_any (w : World) (x : Value) (S : Int) (R n : Nat) (Z : Nat → Nat → Bool) (h : MpAt w x S R (fun _ => n) Z) (ok : OkM R n) :
    Calls Tryd.prog 20 #[x] w fun e w' => e = .returned (.int .i64 (estM n Z R : Int)) ∧ Below w.heap.size w w' := by
  obtain ⟨r1, r16, n1, n256⟩ := ok
  obtain ⟨v, rfl, hv⟩ := h
  obtain ⟨A, cap, b, o, rfl, hc, hr⟩ := hv.read
  have BX : Hid (Below w.heap.size w (w.alloc (.cells #[.int .u64 S, .slice A R cap] 30))) := bel_alloc _ _
  have KX : Hid (Blk (w.alloc (.cells #[.int .u64 S, .slice A R cap] 30)) w.heap.size 30 #[.int .u64 S, .slice A R cap]) := Blk.new _ _ _
  have RC : Hid (RowsCells (w.alloc (.cells #[.int .u64 S, .slice A R cap] 30)) A R b o (fun _ => n) Z) := RowsCells.keep hr (keep_of_below BX.out)
  clear hv hr
  go_enter Tryd.func20, Tryd.ntmps20
  go_wp2_with fail
  generalize w.alloc (.cells #[.int .u64 S, .slice A R cap] 30) = W at BX KX RC ⊢
  have x2 : W.cell? ⟨w.heap.size, 1, none⟩ = some (.slice A R cap) := KX.out.cell 1
  go_wp2_with fail
  go_loopg [3, 4] R (fun gk t i wr => ∃ k c : Nat, (gk = R - k ∧ k ≤ R ∧ c = estM n Z k ∧ wr = W) ∧ t = .int .i64 (c : Int) ∧ i = .int .i64 (k : Int))
  case atStart => exact ⟨0, 0, ⟨rfl, by omega, rfl, rfl⟩, rfl, rfl⟩
  case round =>
    obtain ⟨k, c, ⟨hg, hk, hC, rfl⟩, rfl, rfl⟩ := hrel
    have HK : Hid (gk = R - k ∧ c = estM n Z k) := ⟨hg, hC⟩
    clear hg
    by_cases hz : k < R
    · obtain ⟨rfl, A', cap', b', o', ck, lk, fk, gk'⟩ := RC.out k hz
      obtain rfl := fk (by show 0 < n; omega)
      have GB : Hid (∀ j, j < n → wr.cell? ⟨b', o' + j, none⟩ = some (.bool (Z k j))) := gk'
      have bk : (k : Int) < (R : Int) := by omega
      have bk0 : (0 : Int) ≤ (k : Int) := by omega
      have c1 : c ≤ 16 * 4294967296 := by have := estM_lt n Z n256 k; omega
      clear lk fk gk' hC
      go_wp2_with fail
      go_loopg [3, 6, 7] n (fun gj t a i wi => ∃ j d : Nat, (gj = n - j ∧ j ≤ n ∧ d = cntB (Z k) j ∧ wi = wr) ∧ t = .int .i64 ((c + estC n d : Nat) : Int) ∧ a = .int .i64 ((n - d : Nat) : Int) ∧ i = .int .i64 (j : Int))
      case atStart => exact ⟨0, 0, ⟨rfl, by omega, rfl, rfl⟩, rfl, rfl, rfl⟩
      case round =>
        obtain ⟨j, d, ⟨hg, hj, hd, hw⟩, rfl, rfl, rfl⟩ := hrel
        obtain rfl := hw
        have HJ : Hid (gk = n - j ∧ d = cntB (Z k) j) := ⟨hg, hd⟩
        have dj : d ≤ j := by rw [hd]; exact cntB_le _ _
        have t1 : estC n d ≤ 4294967296 := estC_lt (by omega) n256
        clear hg hd
        by_cases hjn : j < n
        · have cc := GB.out j hjn
          obtain ⟨y, hy⟩ : ∃ y, y = Z k j := ⟨_, rfl⟩
          rw [← hy] at cc
          have HY : Hid (y = Z k j) := hy
          have bj : (j : Int) < (n : Int) := by omega
          have bj0 : (0 : Int) ≤ (j : Int) := by omega
          clear hy
          cases y with
          | false =>
            generalize hT : c + estC n d = T
            have HT : Hid (c + estC n d = T) := hT
            generalize hD : n - d = D
            have HD : Hid (n - d = D) := hD
            clear hT hD
            go_wp2_with fail
            go_roundg (n - (j + 1))
            case measure => have := HJ.out.1; omega
            case rel => exact ⟨j + 1, d, ⟨rfl, by omega, by rw [cntB_off HY.out.symm]; exact HJ.out.2, rfl⟩, by rw [HT.out], by rw [HD.out], by go_num⟩
          | true =>
            have HS : Hid (c + estC n (d + 1) = (c + estC n d) + n * 65536 / (n - d)) := by rw [estC]; exact (Nat.add_assoc _ _ _).symm
            have t2 : estC n (d + 1) ≤ 4294967296 := estC_lt (by omega) n256
            generalize hT : c + estC n d = T at HS
            have T1 : T ≤ 17 * 4294967296 := by omega
            have HT : Hid (c + estC n d = T) := hT
            generalize hD : n - d = D at HS
            have D1 : 1 ≤ D := by omega
            have D2 : D ≤ 256 := by omega
            have HD : Hid (n - d = D) := hD
            obtain ⟨q, hq⟩ : ∃ q, q = n * 65536 / D := ⟨_, rfl⟩
            have HQ : (n : Int) * 65536 / (D : Int) = (q : Int) := by rw [hq, Int.natCast_ediv, Int.natCast_mul]; rfl
            rw [← hq] at HS
            have q1 : T + q ≤ 17 * 4294967296 := by have := HS.out; omega
            have kne : (D : Int) ≠ 0 := by omega
            clear hT hD hq
            go_wp2_with fail
            go_roundg (n - (j + 1))
            case measure => have := HJ.out.1; omega
            case rel => exact ⟨j + 1, d + 1, ⟨rfl, by omega, by rw [cntB_on HY.out.symm, ← HJ.out.2], rfl⟩, by rw [HS.out]; go_num, by have := HD.out; rw [show n - (d + 1) = D - 1 by omega]; go_num, by go_num⟩
        · have HE : Hid (j = n) := (by omega : j = n)
          have bj : ¬ (j : Int) < (n : Int) := by omega
          generalize hT : c + estC n d = T
          have HT : Hid (c + estC n d = T) := hT
          clear hT
          go_wp2_with fail
          go_roundg (R - (k + 1))
          case measure => have := HK.out.1; omega
          case rel => exact ⟨k + 1, T, ⟨rfl, by omega, by rw [← HT.out, estM, ← HK.out.2, HJ.out.2, HE.out], rfl⟩, rfl, by go_num⟩
    · have HE : Hid (k = R) := (by omega : k = R)
      have bk : ¬ (k : Int) < (R : Int) := by omega
      clear hC
      go_wp2_with fail
      go_ret
      exact ⟨ret_int (by rw [HK.out.2, HE.out]), BX.out⟩
def SameM (R : Nat) (L : Nat → Nat) (Z : Nat → Nat → Bool) (R' : Nat) (L' : Nat → Nat) (Y : Nat → Nat → Bool) : Prop := R = R' ∧ ∀ i, i < R → L i = L' i ∧ ∀ j, j < L i → Z i j = Y i j
def EqualM (S : Int) (R : Nat) (L : Nat → Nat) (Z : Nat → Nat → Bool) (S' : Int) (R' : Nat) (L' : Nat → Nat) (Y : Nat → Nat → Bool) : Prop := S = S' ∧ SameM R L Z R' L' Y
set_option maxRecDepth 8000 in
set_option maxHeartbeats 3200000 in
theorem requal_any (w : World) (x y : Value) (S S' : Int) (R R' : Nat) (L L' : Nat → Nat) (Z Y : Nat → Nat → Bool) (h : MpAt w x S R L Z) (h' : MpAt w y S' R' L' Y) (hR : R ≤ 1000) (hL : ∀ i, i < R → L i ≤ 1000) :
    Calls Tryd.prog 9 #[x, y] w (TellsB w (EqualM S R L Z S' R' L' Y)) := by
  obtain ⟨v, rfl, hv⟩ := h
  obtain ⟨v', rfl, hv'⟩ := h'
  obtain ⟨A, cap, b, o, rfl, hc, hr⟩ := hv.read
  obtain ⟨A', cap', b', o', rfl, hc', hr'⟩ := hv'.read
  have BX : Hid (Below w.heap.size w ((w.alloc (.cells #[.int .u64 S, .slice A R cap] 30)).alloc (.cells #[.int .u64 S', .slice A' R' cap'] 30))) := (bel_alloc _ _).alloc (by simp) _
  have KX : Hid (Blk ((w.alloc (.cells #[.int .u64 S, .slice A R cap] 30)).alloc (.cells #[.int .u64 S', .slice A' R' cap'] 30)) w.heap.size 30 #[.int .u64 S, .slice A R cap]) := (Blk.new _ _ _).alloc _
  have KY : Hid (Blk ((w.alloc (.cells #[.int .u64 S, .slice A R cap] 30)).alloc (.cells #[.int .u64 S', .slice A' R' cap'] 30)) (w.heap.size + 1) 30 #[.int .u64 S', .slice A' R' cap']) := by
    have e := Blk.new (w.alloc (.cells #[.int .u64 S, .slice A R cap] 30)) 30 #[.int .u64 S', .slice A' R' cap']
    simp only [World.size_alloc] at e
    exact e
  have RX : Hid (RowsCells ((w.alloc (.cells #[.int .u64 S, .slice A R cap] 30)).alloc (.cells #[.int .u64 S', .slice A' R' cap'] 30)) A R b o L Z) := RowsCells.keep hr (keep_of_below BX.out)
  have RY : Hid (RowsCells ((w.alloc (.cells #[.int .u64 S, .slice A R cap] 30)).alloc (.cells #[.int .u64 S', .slice A' R' cap'] 30)) A' R' b' o' L' Y) := RowsCells.keep hr' (keep_of_below BX.out)
  have HL : Hid (∀ i, i < R → L i ≤ 1000) := hL
  clear hv hv' hr hr' hL
  by_cases k1 : S = S'
  rotate_left
  · have q1 : (S != S') = true := by simpa using k1
    have HN : Hid (¬ S = S') := k1
    clear k1
    go_enter Tryd.func9, Tryd.ntmps9
    go_wp2_with fail
    go_ret
    exact ⟨false, rfl, ⟨fun h => (by cases h), fun h => absurd h.1 HN.out⟩, BX.out⟩
  have q1 : (S != S') = false := by simpa using k1
  have HS : Hid (S = S') := k1
  clear k1
  by_cases c1 : R = R'
  rotate_left
  · have e1 : ((R : Int) != (R' : Int)) = true := by simp; omega
    have HN : Hid (¬ R = R') := c1
    clear c1
    go_enter Tryd.func9, Tryd.ntmps9
    go_wp2_with fail
    go_ret
    exact ⟨false, rfl, ⟨fun h => (by cases h), fun h => absurd h.2.1 HN.out⟩, BX.out⟩
  subst c1
  have e1 : ((R : Int) != (R : Int)) = false := by simp
  go_enter Tryd.func9, Tryd.ntmps9
  go_wp2_with fail
  generalize (w.alloc (.cells #[.int .u64 S, .slice A R cap] 30)).alloc (.cells #[.int .u64 S', .slice A' R cap'] 30) = W at BX KX KY RX RY ⊢
  have x2 : W.cell? ⟨w.heap.size, 1, none⟩ = some (.slice A R cap) := KX.out.cell 1
  have y2 : W.cell? ⟨w.heap.size + 1, 1, none⟩ = some (.slice A' R cap') := KY.out.cell 1
  have x0 : W.cell? ⟨w.heap.size, 0, none⟩ = some (.int .u64 S) := KX.out.cell 0
  have y0 : W.cell? ⟨w.heap.size + 1, 0, none⟩ = some (.int .u64 S') := KY.out.cell 0
  go_wp2_with fail
  clear x2 y2 x0 y0 q1 e1
  go_loopg [5] R (fun gk i wr => ∃ k : Nat, (gk = R - k ∧ k ≤ R ∧ (∀ r, r < k → L r = L' r ∧ ∀ j, j < L r → Z r j = Y r j) ∧ Below W.heap.size W wr) ∧ i = .int .i64 (k : Int))
  case atStart => exact ⟨0, ⟨rfl, by omega, fun r hr => by omega, Below.refl _ _⟩, rfl⟩
  case round =>
    obtain ⟨k, ⟨hg, hk, hP, hB⟩, rfl⟩ := hrel
    have HK : Hid (gk = R - k ∧ (∀ r, r < k → L r = L' r ∧ ∀ j, j < L r → Z r j = Y r j) ∧ Below W.heap.size W wr) := ⟨hg, hP, hB⟩
    have x2 : wr.cell? ⟨w.heap.size, 1, none⟩ = some (.slice A R cap) := (KX.out.since hB).cell 1
    have y2 : wr.cell? ⟨w.heap.size + 1, 1, none⟩ = some (.slice A' R cap') := (KY.out.since hB).cell 1
    by_cases hz : k < R
    · obtain ⟨rfl, A2, cap2, b2, o2, ck, _, fk, gk2⟩ := RX.out k hz
      obtain ⟨rfl, A3, cap3, b3, o3, dk, _, fk3, gk3⟩ := RY.out k hz
      have bk : (k : Int) < (R : Int) := by omega
      have bk0 : (0 : Int) ≤ (k : Int) := by omega
      have lk1 := HL.out k hz
      obtain ⟨m, hm⟩ : ∃ m, m = L k := ⟨_, rfl⟩
      obtain ⟨m', hm'⟩ : ∃ m', m' = L' k := ⟨_, rfl⟩
      rw [← hm] at ck lk1 fk gk2
      rw [← hm'] at dk fk3 gk3
      have HM : Hid (m = L k ∧ m' = L' k) := ⟨hm, hm'⟩
      have CK : Hid (W.cell? ⟨b, o + k, none⟩ = some (.slice A2 m cap2) ∧ W.cell? ⟨b', o' + k, none⟩ = some (.slice A3 m' cap3)) := ⟨ck, dk⟩
      have ck := keep_of_below hB _ _ ck
      have dk := keep_of_below hB _ _ dk
      have FK : Hid ((0 < m → A2 = some ⟨b2, o2, none⟩) ∧ ∀ j, j < m → W.cell? ⟨b2, o2 + j, none⟩ = some (.bool (Z k j))) := ⟨fk, gk2⟩
      have FY : Hid ((0 < m' → A3 = some ⟨b3, o3, none⟩) ∧ ∀ j, j < m' → W.cell? ⟨b3, o3 + j, none⟩ = some (.bool (Y k j))) := ⟨fk3, gk3⟩
      clear hm hm' fk gk2 fk3 gk3 hg hP hB
      by_cases d1 : m = m'
      rotate_left
      · have e1 : ((m : Int) != (m' : Int)) = true := by simp; omega
        have HD : Hid (m ≠ m') := d1
        clear d1
        go_wp2_with fail
        go_quiet (fail)
        go_wp2_with fail
        go_ret
        exact ⟨false, rfl, ⟨fun h => (by cases h), fun h => absurd (h.2.2 k hz).1 (by rw [← HM.out.1, ← HM.out.2]; exact HD.out)⟩, below_drewN (bel_trans BX.out HK.out.2.2) nq⟩
      subst d1
      have e1 : ((m : Int) != (m : Int)) = false := by simp
      go_wp2_with fail
      go_quiet (fail)
      go_wp2_with fail
      clear ck dk x2 y2 e1
      go_loopg [6] m (fun gj i wi => ∃ c : Nat, (gj = m - c ∧ c ≤ m ∧ (∀ j, j < c → Z k j = Y k j) ∧ Below W.heap.size W wi) ∧ i = .int .i64 (c : Int))
      case atStart => exact ⟨0, ⟨rfl, by omega, fun r hr => by omega, below_drewN HK.out.2.2 nq⟩, rfl⟩
      case round =>
        obtain ⟨c, ⟨hg, hc2, hP, hB⟩, rfl⟩ := hrel
        have HJ : Hid (gk = m - c ∧ (∀ j, j < c → Z k j = Y k j) ∧ Below W.heap.size W wr) := ⟨hg, hP, hB⟩
        have x2 : wr.cell? ⟨w.heap.size, 1, none⟩ = some (.slice (some ⟨b, o, none⟩) R cap) := (KX.out.since hB).cell 1
        have y2 : wr.cell? ⟨w.heap.size + 1, 1, none⟩ = some (.slice (some ⟨b', o', none⟩) R cap') := (KY.out.since hB).cell 1
        have ck : wr.cell? ⟨b, o + k, none⟩ = some (.slice A2 m cap2) := keep_of_below hB _ _ CK.out.1
        have dk : wr.cell? ⟨b', o' + k, none⟩ = some (.slice A3 m cap3) := keep_of_below hB _ _ CK.out.2
        by_cases hcl : c < m
        · have bc : (c : Int) < (m : Int) := by omega
          have bc0 : (0 : Int) ≤ (c : Int) := by omega
          obtain rfl := FK.out.1 (by omega)
          obtain rfl := FY.out.1 (by omega)
          obtain ⟨z, hzz⟩ : ∃ z, z = Z k c := ⟨_, rfl⟩
          obtain ⟨y, hyy⟩ : ∃ y, y = Y k c := ⟨_, rfl⟩
          have cc : wr.cell? ⟨b2, o2 + c, none⟩ = some (.bool z) := by rw [hzz]; exact keep_of_below hB _ _ (FK.out.2 c hcl)
          have dc : wr.cell? ⟨b3, o3 + c, none⟩ = some (.bool y) := by rw [hyy]; exact keep_of_below hB _ _ (FY.out.2 c hcl)
          have HZ : Hid (z = Z k c ∧ y = Y k c) := ⟨hzz, hyy⟩
          clear hzz hyy hg hP hB
          have CS : (z = true ∧ y = false) ∨ (z = false ∧ y = true) ∨ (z = true ∧ y = true) ∨ (z = false ∧ y = false) := by cases z <;> cases y <;> simp
          rcases CS with ⟨rfl, rfl⟩ | ⟨rfl, rfl⟩ | ⟨rfl, rfl⟩ | ⟨rfl, rfl⟩
          · go_wp2_with fail
            go_quiet (fail)
            go_wp2_with fail
            go_ret
            exact ⟨false, rfl, ⟨fun h => (by cases h), fun h => absurd ((h.2.2 k hz).2 c (by rw [← HM.out.1]; exact hcl)) (by rw [← HZ.out.1, ← HZ.out.2]; decide)⟩, below_drewN (bel_trans BX.out HJ.out.2.2) nq⟩
          · go_wp2_with fail
            go_quiet (fail)
            go_wp2_with fail
            go_ret
            exact ⟨false, rfl, ⟨fun h => (by cases h), fun h => absurd ((h.2.2 k hz).2 c (by rw [← HM.out.1]; exact hcl)) (by rw [← HZ.out.1, ← HZ.out.2]; decide)⟩, below_drewN (bel_trans BX.out HJ.out.2.2) nq⟩
          · go_wp2_with fail
            go_quiet (fail)
            go_wp2_with fail
            go_roundg (m - (c + 1))
            case measure => have := HJ.out.1; omega
            case rel =>
              refine ⟨c + 1, ⟨rfl, by omega, fun j hj => ?_, below_drewN HJ.out.2.2 nq⟩, by go_num⟩
              by_cases e : j = c
              · rw [e, ← HZ.out.1, ← HZ.out.2]
              · exact HJ.out.2.1 j (by omega)
          · go_wp2_with fail
            go_quiet (fail)
            go_wp2_with fail
            go_roundg (m - (c + 1))
            case measure => have := HJ.out.1; omega
            case rel =>
              refine ⟨c + 1, ⟨rfl, by omega, fun j hj => ?_, below_drewN HJ.out.2.2 nq⟩, by go_num⟩
              by_cases e : j = c
              · rw [e, ← HZ.out.1, ← HZ.out.2]
              · exact HJ.out.2.1 j (by omega)
        · have HE : Hid (c = m) := (by omega : c = m)
          have bc : ¬ (c : Int) < (m : Int) := by omega
          clear hg hP hB
          go_wp2_with fail
          go_roundg (R - (k + 1))
          case measure => have := HK.out.1; omega
          case rel =>
            refine ⟨k + 1, ⟨rfl, by omega, fun r hr => ?_, HJ.out.2.2⟩, by go_num⟩
            by_cases e : r = k
            · rw [e]
              exact ⟨by rw [← HM.out.1, ← HM.out.2], fun j hj => HJ.out.2.1 j (by rw [HE.out, HM.out.1]; exact hj)⟩
            · exact HK.out.2.1 r (by omega)
    · have bk : ¬ (k : Int) < (R : Int) := by omega
      have HE : Hid (k = R) := (by omega : k = R)
      clear hg hP hB
      go_wp2_with fail
      go_ret
      exact ⟨true, rfl, ⟨fun _ => ⟨HS.out, rfl, fun r hr => HK.out.2.1 r (by rw [HE.out]; exact hr)⟩, fun _ => rfl⟩, bel_trans BX.out HK.out.2.2⟩
end Go.Proofs.YtkfhofgmjhnknaaDoor
