
/-
  The sketch of the document (layer 11): what its functions that make no rows answer.
-/
import Derived.Test.YtihealembikkiaaLstRead
import Derived.Test.YtihealembikkiaaHashWords
import Derived.Deep.RegionWith
namespace Go.Proofs.Ytihealembikkiaa
open Go.RowKit Fm Bl Lt L2 Go.Deep
set_option linter.unusedVariables false
set_option maxRecDepth 20000

def SmallP (R : Nat) (L : Nat → Nat) : Prop := R < 20 ∧ ∀ i, i < R → L i ≤ 300
set_option maxHeartbeats 1600000 in
theorem small_any (w : World) (v : Value) (R : Nat) (L : Nat → Nat) (Z : Nat → Nat → Int) (h : RowsI w v R L Z) (hR : R ≤ 9223372036854775807) :
    Calls Try.prog 27 #[v] w (TellsW w (SmallP R L)) := by
  obtain ⟨A, cap, b, o, rfl, hc, hr⟩ := h.read
  have RW : Hid (RowsCells w A R b o L Z) := hr
  clear h hr
  go_enter Try.func27, Try.ntmps27
  go_wp2_with fail
  go_loop [3] (fun i => ∃ k : Nat, (k ≤ R ∧ ∀ r, r < k → L r ≤ 300) ∧ i = .int .i64 (k : Int)) (fun i => R - (intOf i).toNat)
  case atStart => exact ⟨0, ⟨by omega, fun r hr => by omega⟩, rfl⟩
  case round =>
    obtain ⟨k, hk, rfl⟩ := hrel
    have HK : Hid (k ≤ R ∧ ∀ r, r < k → L r ≤ 300) := hk
    have hkR := hk.1
    clear hk
    by_cases hz : k < R
    · obtain ⟨rfl, A', cap', b', o', ck, _⟩ := RW.out k hz
      have bk : (k : Int) < (R : Int) := by omega
      obtain ⟨m, hm⟩ : ∃ m, m = L k := ⟨_, rfl⟩
      rw [← hm] at ck
      have HM : Hid (m = L k) := hm
      clear hm
      by_cases e1 : m ≤ 300
      rotate_left
      · have e2 : (m : Int) > 300 := by omega
        go_wp2_with fail
        go_ret
        exact ⟨false, rfl, ⟨fun h => (by cases h), fun h => by have := h.2 k hz; rw [← HM.out] at this; omega⟩, rfl⟩
      have e2 : ¬ (m : Int) > 300 := by omega
      go_wp2_with fail
      go_round
      case rel =>
        refine ⟨k + 1, ⟨by omega, fun r hr => ?_⟩, by go_num⟩
        by_cases e : r = k
        · rw [e, ← HM.out]; omega
        · exact HK.out.2 r (by omega)
      case measure => simp [intOf]; omega
    · by_cases e : R < 20
      · have e2 : (R : Int) < 20 := by omega
        go_wp2_with fail
        go_ret
        exact ⟨true, by first | rfl | simp [e], ⟨fun _ => ⟨e, fun r hr => HK.out.2 r (by omega)⟩, fun _ => rfl⟩, rfl⟩
      · have e2 : ¬ (R : Int) < 20 := by omega
        go_wp2_with fail
        go_ret
        exact ⟨false, by first | rfl | simp [e], ⟨fun h => (by cases h), fun h => absurd h.1 (by omega)⟩, rfl⟩
set_option maxHeartbeats 3200000 in
theorem rright_any (w : World) (x : Value) (S M : Int) (R : Nat) (L : Nat → Nat) (Z : Nat → Nat → Int) (h : SkAt w x S M R L Z) (hR : R ≤ 1000) (hL : ∀ i, i < R → L i ≤ 1000) :
    Calls Try.prog 36 #[x] w (TellsB w (RightP M R L Z)) := by
  obtain ⟨v, rfl, hv⟩ := h
  obtain ⟨A, cap, b, o, rfl, hc, hr⟩ := hv.read
  have BX : Hid (Below w.heap.size w (w.alloc (.cells #[.int .u64 S, .int .i64 M, .slice A R cap] 30))) := bel_alloc _ _
  have KX : Hid (Blk (w.alloc (.cells #[.int .u64 S, .int .i64 M, .slice A R cap] 30)) w.heap.size 30 #[.int .u64 S, .int .i64 M, .slice A R cap]) := Blk.new _ _ _
  have RW : Hid (RowsCells w A R b o L Z) := hr
  have HL : Hid (∀ i, i < R → L i ≤ 1000) := hL
  clear hv hr hL
  by_cases c1 : M < 1
  · clear RW HL KX
    go_enter Try.func36, Try.ntmps36
    go_wp2_with fail
    go_ret
    exact ⟨false, rfl, ⟨fun h => (by cases h), fun h => by obtain ⟨q1, q2, q3, q4, _⟩ := h; omega⟩, BX.out⟩
  by_cases c2 : M > 1099511627776
  · clear RW HL KX
    go_enter Try.func36, Try.ntmps36
    go_wp2_with fail
    go_ret
    exact ⟨false, rfl, ⟨fun h => (by cases h), fun h => by obtain ⟨q1, q2, q3, q4, _⟩ := h; omega⟩, BX.out⟩
  by_cases c3 : R = 0
  · subst c3
    clear RW HL KX
    go_enter Try.func36, Try.ntmps36
    go_wp2_with fail
    go_ret
    exact ⟨false, rfl, ⟨fun h => (by cases h), fun h => by obtain ⟨q1, q2, q3, q4, _⟩ := h; omega⟩, BX.out⟩
  have e3 : ((R : Int) == 0) = false := by simp; omega
  by_cases c4 : (R : Int) > 7
  · clear RW HL KX
    go_enter Try.func36, Try.ntmps36
    go_wp2_with fail
    go_ret
    exact ⟨false, rfl, ⟨fun h => (by cases h), fun h => by obtain ⟨q1, q2, q3, q4, _⟩ := h; omega⟩, BX.out⟩
  have HM : Hid (1 ≤ M ∧ M ≤ 1099511627776 ∧ 1 ≤ R ∧ R ≤ 7) := by refine ⟨?_, ?_, ?_, ?_⟩ <;> omega
  have r1 : 0 < R := by omega
  have hix : (0 : Int) < (R : Int) := by omega
  obtain ⟨rfl, A0, cap0, b0, o0, c0, _⟩ := RW.out 0 r1
  rw [Nat.add_zero] at c0
  obtain ⟨n0, hn0⟩ : ∃ n0, n0 = L 0 := ⟨_, rfl⟩
  rw [← hn0] at c0
  have HN : Hid (n0 = L 0) := hn0
  have C0 : Hid (w.cell? ⟨b, o, none⟩ = some (.slice A0 n0 cap0)) := c0
  clear hn0 c0
  go_enter Try.func36, Try.ntmps36
  go_wp2_with fail
  clear c1 c2 c3 c4 e3
  go_loopg [3] R (fun gk i wr => ∃ k : Nat, (gk = R - k ∧ k ≤ R ∧ (∀ r, r < k → (1 ≤ L r ∧ L r ≤ 256) ∧ L r = L 0 ∧ ∀ j, j < L r → 0 ≤ Z r j ∧ Z r j ≤ M) ∧ Below w.heap.size w wr ∧ Blk wr w.heap.size 30 #[.int .u64 S, .int .i64 M, .slice (some ⟨b, o, none⟩) R cap]) ∧ i = .int .i64 (k : Int))
  case atStart => exact ⟨0, ⟨rfl, by omega, fun r hr => by omega, BX.out, KX.out⟩, rfl⟩
  case round =>
    clear BX KX
    obtain ⟨k, ⟨hg, hk, hP, hB, hX⟩, rfl⟩ := hrel
    have HK : Hid (gk = R - k ∧ (∀ r, r < k → (1 ≤ L r ∧ L r ≤ 256) ∧ L r = L 0 ∧ ∀ j, j < L r → 0 ≤ Z r j ∧ Z r j ≤ M) ∧ Below w.heap.size w wr ∧ Blk wr w.heap.size 30 #[.int .u64 S, .int .i64 M, .slice (some ⟨b, o, none⟩) R cap]) := ⟨hg, hP, hB, hX⟩
    have x2 : wr.cell? ⟨w.heap.size, 2, none⟩ = some (.slice (some ⟨b, o, none⟩) R cap) := hX.cell 2
    have c0 : wr.cell? ⟨b, o, none⟩ = some (.slice A0 n0 cap0) := keep_of_below hB _ _ C0.out
    by_cases hz : k < R
    · obtain ⟨_, A', cap', b', o', ck, lk, fk, gk'⟩ := RW.out k hz
      have bk : (k : Int) < (R : Int) := by omega
      have bk0 : (0 : Int) ≤ (k : Int) := by omega
      have ck := keep_of_below hB _ _ ck
      have lk1 := HL.out k hz
      obtain ⟨m, hm⟩ : ∃ m, m = L k := ⟨_, rfl⟩
      have CK : Hid (w.cell? ⟨b, o + k, none⟩ = some (.slice A' m cap')) := by rw [hm]; assumption
      rw [← hm] at ck lk1 fk gk'
      have FK : Hid ((0 < m → A' = some ⟨b', o', none⟩) ∧ ∀ j, j < m → w.cell? ⟨b', o' + j, none⟩ = some (.int .i64 (Z k j))) := ⟨fk, gk'⟩
      have HM2 : Hid (m = L k) := hm
      clear hm lk fk gk' hg hP hB hX
      by_cases d1 : m = 0
      · have e1 : ((m : Int) == 0) = true := by simp; omega
        go_wp2_with fail
        go_ret
        exact ⟨false, rfl, ⟨fun h => (by cases h), fun h => by have a1 := (h.2.2.2.2.2.2 k hz).1; have a2 := h.2.2.2.2.1; rw [← HM2.out] at a1; omega⟩, HK.out.2.2.1⟩
      have e1 : ((m : Int) == 0) = false := by simp; omega
      by_cases d2 : (m : Int) > 256
      · go_wp2_with fail
        go_ret
        exact ⟨false, rfl, ⟨fun h => (by cases h), fun h => by have a1 := (h.2.2.2.2.2.2 k hz).1; have a2 := h.2.2.2.2.2.1; rw [← HM2.out] at a1; omega⟩, HK.out.2.2.1⟩
      by_cases d3 : m = n0
      rotate_left
      · have e3 : ((m : Int) != (n0 : Int)) = true := by simp; omega
        have HD : Hid (m ≠ n0) := d3
        clear d3
        go_wp2_with fail
        go_ret
        exact ⟨false, rfl, ⟨fun h => (by cases h), fun h => absurd (h.2.2.2.2.2.2 k hz).1 (by rw [← HM2.out, ← HN.out]; exact HD.out)⟩, HK.out.2.2.1⟩
      have e3 : ((m : Int) != (n0 : Int)) = false := by simp; omega
      have HD : Hid (m = n0 ∧ 1 ≤ m ∧ m ≤ 256) := ⟨d3, by omega, by omega⟩
      have m1 : 1 ≤ m := by omega
      clear d3
      go_wp2_with fail
      obtain rfl := FK.out.1 (by omega)
      clear x2 c0 ck e1 e3 d1 d2
      go_loopg [5] m (fun gj i wi => ∃ c : Nat, (gj = m - c ∧ c ≤ m ∧ (∀ j, j < c → 0 ≤ Z k j ∧ Z k j ≤ M) ∧ Below w.heap.size w wi ∧ Blk wi w.heap.size 30 #[.int .u64 S, .int .i64 M, .slice (some ⟨b, o, none⟩) R cap]) ∧ i = .int .i64 (c : Int))
      case atStart => exact ⟨0, ⟨rfl, by omega, fun r hr => by omega, HK.out.2.2⟩, rfl⟩
      case round =>
        obtain ⟨c, ⟨hg, hc', hP, hB, hX⟩, rfl⟩ := hrel
        have HJ : Hid (gk = m - c ∧ (∀ j, j < c → 0 ≤ Z k j ∧ Z k j ≤ M) ∧ Below w.heap.size w wr ∧ Blk wr w.heap.size 30 #[.int .u64 S, .int .i64 M, .slice (some ⟨b, o, none⟩) R cap]) := ⟨hg, hP, hB, hX⟩
        have x1 : wr.cell? ⟨w.heap.size, 1, none⟩ = some (.int .i64 M) := hX.cell 1
        have x2 : wr.cell? ⟨w.heap.size, 2, none⟩ = some (.slice (some ⟨b, o, none⟩) R cap) := hX.cell 2
        have ck : wr.cell? ⟨b, o + k, none⟩ = some (.slice (some ⟨b', o', none⟩) m cap') := keep_of_below hB _ _ CK.out
        by_cases hcl : c < m
        · have bc : (c : Int) < (m : Int) := by omega
          have bc0 : (0 : Int) ≤ (c : Int) := by omega
          obtain ⟨z, hzz⟩ : ∃ z, z = Z k c := ⟨_, rfl⟩
          have cc : wr.cell? ⟨b', o' + c, none⟩ = some (.int .i64 z) := by rw [hzz]; exact keep_of_below hB _ _ (FK.out.2 c hcl)
          have HZ : Hid (z = Z k c) := hzz
          clear hzz hg hP hB hX
          by_cases d1 : z < 0
          · have e1 : decide (z < 0) = true := decide_eq_true d1
            go_wp2_with fail
            go_quiet (fail)
            go_wp2_with fail
            go_ret
            exact ⟨false, rfl, ⟨fun h => (by cases h), fun h => by have := (h.2.2.2.2.2.2 k hz).2 c (by rw [← (h.2.2.2.2.2.2 k hz).1, ← HM2.out]; exact hcl); rw [← HZ.out] at this; omega⟩, below_drewN HJ.out.2.2.1 nq⟩
          have e1 : decide (z < 0) = false := decide_eq_false d1
          by_cases d2 : z > M
          · go_wp2_with fail
            go_quiet (fail)
            go_wp2_with fail
            go_ret
            exact ⟨false, rfl, ⟨fun h => (by cases h), fun h => by have := (h.2.2.2.2.2.2 k hz).2 c (by rw [← (h.2.2.2.2.2.2 k hz).1, ← HM2.out]; exact hcl); rw [← HZ.out] at this; omega⟩, below_drewN HJ.out.2.2.1 nq⟩
          go_wp2_with fail
          go_quiet (fail)
          go_wp2_with fail
          go_roundg (m - (c + 1))
          case measure => have := HJ.out.1; omega
          case rel =>
            refine ⟨c + 1, ⟨rfl, by omega, fun j hj => ?_, below_drewN HJ.out.2.2.1 nq, HJ.out.2.2.2⟩, by go_num⟩
            by_cases e : j = c
            · rw [e, ← HZ.out]; omega
            · exact HJ.out.2.1 j (by omega)
        · have HE : Hid (c = m) := (by omega : c = m)
          have bc : ¬ (c : Int) < (m : Int) := by omega
          clear hg hP hB hX
          go_wp2_with fail
          go_roundg (R - (k + 1))
          case measure => have := HK.out.1; omega
          case rel =>
            refine ⟨k + 1, ⟨rfl, by omega, fun r hr => ?_, HJ.out.2.2⟩, by go_num⟩
            by_cases e : r = k
            · rw [e, ← HM2.out]
              exact ⟨HD.out.2, by rw [← HN.out]; exact HD.out.1, fun j hj => HJ.out.2.1 j (by rw [HE.out]; exact hj)⟩
            · exact HK.out.2.1 r (by omega)
    · have bk : ¬ (k : Int) < (R : Int) := by omega
      have HE : Hid (k = R) := (by omega : k = R)
      clear hg hP hB hX
      go_wp2_with fail
      go_ret
      refine ⟨true, rfl, ⟨fun _ => ?_, fun _ => rfl⟩, HK.out.2.2.1⟩
      obtain ⟨q1, q2, q3, q4⟩ := HM.out
      have z0 := HK.out.2.1
      rw [HE.out] at z0
      exact ⟨q1, q2, q3, q4, (z0 0 (by omega)).1.1, (z0 0 (by omega)).1.2, fun r hr => ⟨(z0 r hr).2.1, fun j hj => (z0 r hr).2.2 j (by rw [(z0 r hr).2.1]; exact hj)⟩⟩
set_option maxHeartbeats 800000 in
theorem rlcell_any (S : Int) (s : ByteArray) (i n : Nat) (w : World) (uS : U S) (hs : s.size ≤ 100000) (hi : i ≤ 1000) (hn : 1 ≤ n) (hn1 : n ≤ 1000) :
    Calls Try.prog 25 #[.int .u64 S, .string s, .int .i64 (i : Int), .int .i64 (n : Int)] w fun e w' => e = .returned (.int .i64 (placeN S s n i : Int)) ∧ Below w.heap.size w w' := by
  have HP : Hid (cellF (rowF S i) s n = (placeN S s n i : Int)) := placeN_eq S s n i hn
  go_enter Try.func25, Try.ntmps25
  go_wp2_with fail
  refine (rrow_any S i _ uS hi).mono ?_
  rintro e u1 ⟨rfl, rfl⟩
  go_wp2_with fail
  refine (rcell_any _ s n _ (rowF_U S i) hs hn (by omega)).mono ?_
  rintro e u2 ⟨rfl, b2⟩
  go_wp2_with fail
  go_ret
  exact ⟨ret_int HP.out, b2⟩
set_option maxHeartbeats 800000 in
theorem capped_any (x m : Int) (w : World) : Calls Try.prog 69 #[.int .i64 x, .int .i64 m] w fun e w' => e = .returned (.int .i64 (capF x m)) ∧ w' = w := by
  by_cases h : x > m
  · have E : Hid (capF x m = m) := if_neg (by omega)
    go_enter Try.func69, Try.ntmps69
    go_wp2
    go_ret
    exact ⟨ret_int E.out.symm, rfl⟩
  · have E : Hid (capF x m = x) := if_pos (by omega)
    go_enter Try.func69, Try.ntmps69
    go_wp2
    go_ret
    exact ⟨ret_int E.out.symm, rfl⟩
def SameP (R : Nat) (L : Nat → Nat) (Z : Nat → Nat → Int) (R' : Nat) (L' : Nat → Nat) (Y : Nat → Nat → Int) : Prop := R = R' ∧ ∀ i, i < R → L i = L' i ∧ ∀ j, j < L i → Z i j = Y i j
set_option maxHeartbeats 3200000 in
theorem same_any (w : World) (v v' : Value) (R R' : Nat) (L L' : Nat → Nat) (Z Y : Nat → Nat → Int) (h : RowsI w v R L Z) (h' : RowsI w v' R' L' Y) (hR : R ≤ 1000) (hL : ∀ i, i < R → L i ≤ 1000) :
    Calls Try.prog 70 #[v, v'] w (TellsB w (SameP R L Z R' L' Y)) := by
  obtain ⟨A, cap, b, o, rfl, hc, hr⟩ := h.read
  obtain ⟨A', cap', b', o', rfl, hc', hr'⟩ := h'.read
  have RX : Hid (RowsCells w A R b o L Z) := hr
  have RY : Hid (RowsCells w A' R' b' o' L' Y) := hr'
  have HL : Hid (∀ i, i < R → L i ≤ 1000) := hL
  clear h h' hr hr' hL
  by_cases c1 : R = R'
  rotate_left
  · have e1 : ((R : Int) != (R' : Int)) = true := by simp; omega
    go_enter Try.func70, Try.ntmps70
    go_wp2_with fail
    go_ret
    exact ⟨false, rfl, ⟨fun h => (by cases h), fun h => absurd h.1 c1⟩, Below.refl _ _⟩
  subst c1
  go_enter Try.func70, Try.ntmps70
  go_wp2_with fail
  go_loopg [5] R (fun gk i wr => ∃ k : Nat, (gk = R - k ∧ k ≤ R ∧ (∀ r, r < k → L r = L' r ∧ ∀ j, j < L r → Z r j = Y r j) ∧ Below w.heap.size w wr) ∧ i = .int .i64 (k : Int))
  case atStart => exact ⟨0, ⟨rfl, by omega, fun r hr => by omega, Below.refl _ _⟩, rfl⟩
  case round =>
    obtain ⟨k, ⟨hg, hk, hP, hB⟩, rfl⟩ := hrel
    have HK : Hid (gk = R - k ∧ (∀ r, r < k → L r = L' r ∧ ∀ j, j < L r → Z r j = Y r j) ∧ Below w.heap.size w wr) := ⟨hg, hP, hB⟩
    by_cases hz : k < R
    · obtain ⟨rfl, A2, cap2, b2, o2, ck, _, fk, gk2⟩ := RX.out k hz
      obtain ⟨rfl, A3, cap3, b3, o3, dk, _, fk3, gk3⟩ := RY.out k hz
      have bk : (k : Int) < (R : Int) := by omega
      have bk0 : (0 : Int) ≤ (k : Int) := by omega
      have lk1 := HL.out k hz
      obtain ⟨m, hm⟩ : ∃ m, m = L k := ⟨_, rfl⟩
      obtain ⟨m', hm'⟩ : ∃ m', m' = L' k := ⟨_, rfl⟩
      rw [← hm] at ck lk1 fk gk2
      rw [← hm'] at dk fk3 gk3
      have HM : Hid (m = L k ∧ m' = L' k) := ⟨hm, hm'⟩
      have CK : Hid (w.cell? ⟨b, o + k, none⟩ = some (.slice A2 m cap2) ∧ w.cell? ⟨b', o' + k, none⟩ = some (.slice A3 m' cap3)) := ⟨ck, dk⟩
      have ck := keep_of_below hB _ _ ck
      have dk := keep_of_below hB _ _ dk
      have FK : Hid ((0 < m → A2 = some ⟨b2, o2, none⟩) ∧ ∀ j, j < m → w.cell? ⟨b2, o2 + j, none⟩ = some (.int .i64 (Z k j))) := ⟨fk, gk2⟩
      have FY : Hid ((0 < m' → A3 = some ⟨b3, o3, none⟩) ∧ ∀ j, j < m' → w.cell? ⟨b3, o3 + j, none⟩ = some (.int .i64 (Y k j))) := ⟨fk3, gk3⟩
      clear hm hm' fk gk2 fk3 gk3 hg hP hB
      by_cases d1 : m = m'
      rotate_left
      · have e1 : ((m : Int) != (m' : Int)) = true := by simp; omega
        have HD : Hid (m ≠ m') := d1
        clear d1
        go_wp2_with fail
        go_quiet (fail)
        go_wp2_with fail
        go_ret
        exact ⟨false, rfl, ⟨fun h => (by cases h), fun h => absurd (h.2 k hz).1 (by rw [← HM.out.1, ← HM.out.2]; exact HD.out)⟩, below_drewN HK.out.2.2 nq⟩
      subst d1
      go_wp2_with fail
      go_quiet (fail)
      go_wp2_with fail
      clear ck dk
      go_loopg [6] m (fun gj i wi => ∃ c : Nat, (gj = m - c ∧ c ≤ m ∧ (∀ j, j < c → Z k j = Y k j) ∧ Below w.heap.size w wi) ∧ i = .int .i64 (c : Int))
      case atStart => exact ⟨0, ⟨rfl, by omega, fun r hr => by omega, below_drewN HK.out.2.2 nq⟩, rfl⟩
      case round =>
        obtain ⟨c, ⟨hg, hc2, hP, hB⟩, rfl⟩ := hrel
        have HJ : Hid (gk = m - c ∧ (∀ j, j < c → Z k j = Y k j) ∧ Below w.heap.size w wr) := ⟨hg, hP, hB⟩
        have ck : wr.cell? ⟨b, o + k, none⟩ = some (.slice A2 m cap2) := keep_of_below hB _ _ CK.out.1
        have dk : wr.cell? ⟨b', o' + k, none⟩ = some (.slice A3 m cap3) := keep_of_below hB _ _ CK.out.2
        by_cases hcl : c < m
        · have bc : (c : Int) < (m : Int) := by omega
          have bc0 : (0 : Int) ≤ (c : Int) := by omega
          obtain rfl := FK.out.1 (by omega)
          obtain rfl := FY.out.1 (by omega)
          obtain ⟨z, hzz⟩ : ∃ z, z = Z k c := ⟨_, rfl⟩
          obtain ⟨y, hyy⟩ : ∃ y, y = Y k c := ⟨_, rfl⟩
          have cc : wr.cell? ⟨b2, o2 + c, none⟩ = some (.int .i64 z) := by rw [hzz]; exact keep_of_below hB _ _ (FK.out.2 c hcl)
          have dc : wr.cell? ⟨b3, o3 + c, none⟩ = some (.int .i64 y) := by rw [hyy]; exact keep_of_below hB _ _ (FY.out.2 c hcl)
          have HZ : Hid (z = Z k c ∧ y = Y k c) := ⟨hzz, hyy⟩
          clear hzz hyy hg hP hB
          by_cases d1 : z = y
          rotate_left
          · have e1 : (z != y) = true := by simpa using d1
            have HD : Hid (z ≠ y) := d1
            clear d1
            go_wp2_with fail
            go_quiet (fail)
            go_wp2_with fail
            go_ret
            exact ⟨false, rfl, ⟨fun h => (by cases h), fun h => absurd ((h.2 k hz).2 c (by rw [← HM.out.1]; exact hcl)) (by rw [← HZ.out.1, ← HZ.out.2]; exact HD.out)⟩, below_drewN HJ.out.2.2 nq⟩
          have e1 : (z != y) = false := by simpa using d1
          have HD : Hid (z = y) := d1
          clear d1
          go_wp2_with fail
          go_quiet (fail)
          go_wp2_with fail
          go_roundg (m - (c + 1))
          case measure => have := HJ.out.1; omega
          case rel =>
            refine ⟨c + 1, ⟨rfl, by omega, fun j hj => ?_, below_drewN HJ.out.2.2 nq⟩, by go_num⟩
            by_cases e : j = c
            · rw [e, ← HZ.out.1, ← HZ.out.2]; exact HD.out
            · exact HJ.out.2.1 j (by omega)
        · have HE : Hid (c = m) := (by omega : c = m)
          have bc : ¬ (c : Int) < (m : Int) := by omega
          clear hg hP hB
          go_wp2_with fail
          go_roundg (R - (k + 1))
          case measure => have := HK.out.1; omega
          case rel =>
            refine ⟨k + 1, ⟨rfl, by omega, fun r hr => ?_, HJ.out.2.2⟩, by go_num⟩
            by_cases e : r = k
            · rw [e]
              exact ⟨by rw [← HM.out.1, ← HM.out.2], fun j hj => HJ.out.2.1 j (by rw [HE.out, HM.out.1]; exact hj)⟩
            · exact HK.out.2.1 r (by omega)
    · have bk : ¬ (k : Int) < (R : Int) := by omega
      have HE : Hid (k = R) := (by omega : k = R)
      clear hg hP hB
      go_wp2_with fail
      go_ret
      exact ⟨true, rfl, ⟨fun _ => ⟨rfl, fun r hr => HK.out.2.1 r (by rw [HE.out]; exact hr)⟩, fun _ => rfl⟩, HK.out.2.2⟩
def EqualP (S M : Int) (R : Nat) (L : Nat → Nat) (Z : Nat → Nat → Int) (S' M' : Int) (R' : Nat) (L' : Nat → Nat) (Y : Nat → Nat → Int) : Prop := S = S' ∧ M = M' ∧ SameP R L Z R' L' Y
set_option maxHeartbeats 1600000 in
theorem requal_any (w : World) (x y : Value) (S M S' M' : Int) (R R' : Nat) (L L' : Nat → Nat) (Z Y : Nat → Nat → Int) (h : SkAt w x S M R L Z) (h' : SkAt w y S' M' R' L' Y) (hR : R ≤ 1000) (hL : ∀ i, i < R → L i ≤ 1000) :
    Calls Try.prog 46 #[x, y] w (TellsB w (EqualP S M R L Z S' M' R' L' Y)) := by
  obtain ⟨v, rfl, hv⟩ := h
  obtain ⟨v', rfl, hv'⟩ := h'
  have SC : Hid (∀ w1, Below w.heap.size w w1 → Calls Try.prog 70 #[v, v'] w1 (TellsB w1 (SameP R L Z R' L' Y))) := fun w1 b1 => same_any w1 v v' R R' L L' Z Y (hv.keep (keep_of_below b1)) (hv'.keep (keep_of_below b1)) hR hL
  obtain ⟨A, cap, b, o, rfl, hc, hr⟩ := hv.read
  obtain ⟨A', cap', b', o', rfl, hc', hr'⟩ := hv'.read
  have BX : Hid (Below w.heap.size w ((w.alloc (.cells #[.int .u64 S, .int .i64 M, .slice A R cap] 30)).alloc (.cells #[.int .u64 S', .int .i64 M', .slice A' R' cap'] 30))) := (bel_alloc _ _).alloc (by simp) _
  clear hv hv' hr hr' hL
  by_cases k1 : S = S'
  rotate_left
  · have q1 : (S == S') = false := by simpa using k1
    have HN : Hid (¬ S = S') := k1
    clear k1
    go_enter Try.func46, Try.ntmps46
    go_wp2_with fail
    go_ret
    exact ⟨false, rfl, ⟨fun h => (by cases h), fun h => absurd h.1 HN.out⟩, BX.out⟩
  subst k1
  by_cases k2 : M = M'
  rotate_left
  · have q1 : (M == M') = false := by simpa using k2
    have HN : Hid (¬ M = M') := k2
    clear k2
    go_enter Try.func46, Try.ntmps46
    go_wp2_with fail
    go_ret
    exact ⟨false, rfl, ⟨fun h => (by cases h), fun h => absurd h.2.1 HN.out⟩, BX.out⟩
  subst k2
  go_enter Try.func46, Try.ntmps46
  go_wp2_with fail
  refine (SC.out _ BX.out).mono ?_
  rintro e u1 ⟨B, rfl, hB, b1⟩
  have HB : Hid (B = true ↔ SameP R L Z R' L' Y) := hB
  clear hB
  go_wp2_with fail
  go_ret
  exact ⟨B, rfl, ⟨fun h => ⟨rfl, rfl, HB.out.1 h⟩, fun h => HB.out.2 h.2.2⟩, bel_trans BX.out b1⟩
end Go.Proofs.Ytihealembikkiaa
