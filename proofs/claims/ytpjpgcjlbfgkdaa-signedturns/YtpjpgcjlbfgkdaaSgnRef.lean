
/-
  The sketch of the document (layer 12): what its functions that make no rows answer.
-/
import Derived.Test.YtpjpgcjlbfgkdaaSgnRead
import Derived.Test.YtpjpgcjlbfgkdaaLstRef
import Derived.Test.YtpjpgcjlbfgkdaaHashWords
namespace Go.Proofs.Ytpjpgcjlbfgkdaa
open Go.RowKit Fm Bl Sg L2 Go.Deep
set_option linter.unusedVariables false

set_option maxHeartbeats 1600000 in
theorem hright_odd (w : World) (x : Value) (S : Int) (R : Nat) (L : Nat → Nat) (Z : Nat → Nat → Int) (h : SgAt w x S R L Z) (hno : R ≠ 1 ∧ R ≠ 3 ∧ R ≠ 5 ∧ R ≠ 7) :
    Calls Try.prog 13 #[x] w (TellsB w (RightG R L Z)) := by
  obtain ⟨v, rfl, hv⟩ := h
  obtain ⟨A, cap, b, o, rfl, hc, hr⟩ := hv.read
  have BX : Hid (Below w.heap.size w (w.alloc (.cells #[.int .u64 S, .slice A R cap] 30))) := bel_alloc _ _
  have HN : Hid (R ≠ 1 ∧ R ≠ 3 ∧ R ≠ 5 ∧ R ≠ 7) := hno
  have e1 : ((R : Int) != 1) = true := by simp; omega
  have e3 : ((R : Int) != 3) = true := by simp; omega
  have e5 : ((R : Int) != 5) = true := by simp; omega
  have e7 : ((R : Int) != 7) = true := by simp; omega
  clear hv hr hno
  go_enter Try.func13, Try.ntmps13
  go_wp2_with fail
  go_ret
  exact ⟨false, rfl, ⟨fun h => (by cases h), fun h => by obtain ⟨q1, q2, q3, _⟩ := h; have := HN.out; omega⟩, BX.out⟩
set_option maxHeartbeats 3200000 in
theorem hright_one (w : World) (x : Value) (S : Int) (R : Nat) (L : Nat → Nat) (Z : Nat → Nat → Int) (h : SgAt w x S R L Z) (hL : ∀ i, i < R → L i ≤ 1000) (r1 : 0 < R) (r7 : R ≤ 7) (r2 : R % 2 = 1) (q1 : ((R : Int) != 1) = false) :
    Calls Try.prog 13 #[x] w (TellsB w (RightG R L Z)) := by
  obtain ⟨v, rfl, hv⟩ := h
  obtain ⟨A, cap, b, o, rfl, hc, hr⟩ := hv.read
  have BX : Hid (Below w.heap.size w (w.alloc (.cells #[.int .u64 S, .slice A R cap] 30))) := bel_alloc _ _
  have KX : Hid (Blk (w.alloc (.cells #[.int .u64 S, .slice A R cap] 30)) w.heap.size 30 #[.int .u64 S, .slice A R cap]) := Blk.new _ _ _
  have RW : Hid (RowsCells w A R b o L Z) := hr
  have HL : Hid (∀ i, i < R → L i ≤ 1000) := hL
  clear hv hr hL
  have HM : Hid (1 ≤ R ∧ R ≤ 7 ∧ R % 2 = 1) := ⟨r1, r7, r2⟩
  have hix : (0 : Int) < (R : Int) := by omega
  obtain ⟨rfl, A0, cap0, b0, o0, c0, _⟩ := RW.out 0 r1
  rw [Nat.add_zero] at c0
  obtain ⟨n0, hn0⟩ : ∃ n0, n0 = L 0 := ⟨_, rfl⟩
  rw [← hn0] at c0
  have HN : Hid (n0 = L 0) := hn0
  have C0 : Hid (w.cell? ⟨b, o, none⟩ = some (.slice A0 n0 cap0)) := c0
  clear hn0 c0 r2
  go_enter Try.func13, Try.ntmps13
  go_wp2_with fail
  clear q1
  go_loopg [4] R (fun gk i wr => ∃ k : Nat, (gk = R - k ∧ k ≤ R ∧ (∀ r, r < k → (1 ≤ L r ∧ L r ≤ 256) ∧ L r = L 0 ∧ ∀ j, j < L r → FitsI (Z r j)) ∧ Below w.heap.size w wr ∧ Blk wr w.heap.size 30 #[.int .u64 S, .slice (some ⟨b, o, none⟩) R cap]) ∧ i = .int .i64 (k : Int))
  case atStart => exact ⟨0, ⟨rfl, by omega, fun r hr => by omega, BX.out, KX.out⟩, rfl⟩
  case round =>
    clear BX KX
    obtain ⟨k, ⟨hg, hk, hP, hB, hX⟩, rfl⟩ := hrel
    have HK : Hid (gk = R - k ∧ (∀ r, r < k → (1 ≤ L r ∧ L r ≤ 256) ∧ L r = L 0 ∧ ∀ j, j < L r → FitsI (Z r j)) ∧ Below w.heap.size w wr ∧ Blk wr w.heap.size 30 #[.int .u64 S, .slice (some ⟨b, o, none⟩) R cap]) := ⟨hg, hP, hB, hX⟩
    have x2 : wr.cell? ⟨w.heap.size, 1, none⟩ = some (.slice (some ⟨b, o, none⟩) R cap) := hX.cell 1
    have c0 : wr.cell? ⟨b, o, none⟩ = some (.slice A0 n0 cap0) := keep_of_below hB _ _ C0.out
    by_cases hz : k < R
    · obtain ⟨_, A', cap', b', o', ck, lk, fk, gk'⟩ := RW.out k hz
      have bk : (k : Int) < (R : Int) := by omega
      have bk0 : (0 : Int) ≤ (k : Int) := by omega
      have ck := keep_of_below hB _ _ ck
      have lk1 := HL.out k hz
      obtain ⟨m, hm⟩ : ∃ m, m = L k := ⟨_, rfl⟩
      have CK : Hid (w.cell? ⟨b, o + k, none⟩ = some (.slice A' m cap')) := by rw [hm]; assumption
      rw [← hm] at ck lk1 fk gk'
      have FK : Hid ((0 < m → A' = some ⟨b', o', none⟩) ∧ ∀ j, j < m → w.cell? ⟨b', o' + j, none⟩ = some (.int .i64 (Z k j))) := ⟨fk, gk'⟩
      have HM2 : Hid (m = L k) := hm
      clear hm lk fk gk' hg hP hB hX
      by_cases d1 : m = 0
      · have e1 : ((m : Int) == 0) = true := by simp; omega
        go_wp2_with fail
        go_ret
        exact ⟨false, rfl, ⟨fun h => (by cases h), fun h => by have a1 := (h.2.2.2.2.2 k hz).1; have a2 := h.2.2.2.1; rw [← HM2.out] at a1; omega⟩, HK.out.2.2.1⟩
      have e1 : ((m : Int) == 0) = false := by simp; omega
      by_cases d2 : (m : Int) > 256
      · go_wp2_with fail
        go_ret
        exact ⟨false, rfl, ⟨fun h => (by cases h), fun h => by have a1 := (h.2.2.2.2.2 k hz).1; have a2 := h.2.2.2.2.1; rw [← HM2.out] at a1; omega⟩, HK.out.2.2.1⟩
      by_cases d3 : m = n0
      rotate_left
      · have e3 : ((m : Int) != (n0 : Int)) = true := by simp; omega
        have HD : Hid (m ≠ n0) := d3
        clear d3
        go_wp2_with fail
        go_ret
        exact ⟨false, rfl, ⟨fun h => (by cases h), fun h => absurd (h.2.2.2.2.2 k hz).1 (by rw [← HM2.out, ← HN.out]; exact HD.out)⟩, HK.out.2.2.1⟩
      have e3 : ((m : Int) != (n0 : Int)) = false := by simp; omega
      have HD : Hid (m = n0 ∧ 1 ≤ m ∧ m ≤ 256) := ⟨d3, by omega, by omega⟩
      have m1 : 1 ≤ m := by omega
      clear d3
      go_wp2_with fail
      obtain rfl := FK.out.1 (by omega)
      clear x2 c0 ck e1 e3 d1 d2
      go_loopg [6] m (fun gj i wi => ∃ c : Nat, (gj = m - c ∧ c ≤ m ∧ (∀ j, j < c → FitsI (Z k j)) ∧ Below w.heap.size w wi ∧ Blk wi w.heap.size 30 #[.int .u64 S, .slice (some ⟨b, o, none⟩) R cap]) ∧ i = .int .i64 (c : Int))
      case atStart => exact ⟨0, ⟨rfl, by omega, fun r hr => by omega, HK.out.2.2⟩, rfl⟩
      case round =>
        obtain ⟨c, ⟨hg, hc', hP, hB, hX⟩, rfl⟩ := hrel
        have HJ : Hid (gk = m - c ∧ (∀ j, j < c → FitsI (Z k j)) ∧ Below w.heap.size w wr ∧ Blk wr w.heap.size 30 #[.int .u64 S, .slice (some ⟨b, o, none⟩) R cap]) := ⟨hg, hP, hB, hX⟩
        have x2 : wr.cell? ⟨w.heap.size, 1, none⟩ = some (.slice (some ⟨b, o, none⟩) R cap) := hX.cell 1
        have ck : wr.cell? ⟨b, o + k, none⟩ = some (.slice (some ⟨b', o', none⟩) m cap') := keep_of_below hB _ _ CK.out
        by_cases hcl : c < m
        · have bc : (c : Int) < (m : Int) := by omega
          have bc0 : (0 : Int) ≤ (c : Int) := by omega
          obtain ⟨z, hzz⟩ : ∃ z, z = Z k c := ⟨_, rfl⟩
          have cc : wr.cell? ⟨b', o' + c, none⟩ = some (.int .i64 z) := by rw [hzz]; exact keep_of_below hB _ _ (FK.out.2 c hcl)
          have HZ : Hid (z = Z k c) := hzz
          clear hzz hg hP hB hX
          by_cases d1 : FitsI z
          rotate_left
          · have ft := fitsB1_no d1
            have HD : Hid (¬ FitsI z) := d1
            clear d1
            go_wp2_with fail
            refine (hfits_any _ _).mono ?_
            rw [ft]
            clear ft
            rintro e u1 ⟨rfl, rfl⟩
            go_wp2_with fail
            go_ret
            exact ⟨false, rfl, ⟨fun h => (by cases h), fun h => by have := (h.2.2.2.2.2 k hz).2 c (by rw [← (h.2.2.2.2.2 k hz).1, ← HM2.out]; exact hcl); rw [← HZ.out] at this; exact absurd this HD.out⟩, HJ.out.2.2.1⟩
          have ft := fitsB1_yes d1
          have HD2 : Hid (FitsI z) := d1
          clear d1
          go_wp2_with fail
          refine (hfits_any _ _).mono ?_
          rw [ft]
          clear ft
          rintro e u1 ⟨rfl, rfl⟩
          go_wp2_with fail
          go_roundg (m - (c + 1))
          case measure => have := HJ.out.1; omega
          case rel =>
            refine ⟨c + 1, ⟨rfl, by omega, fun j hj => ?_, HJ.out.2.2.1, HJ.out.2.2.2⟩, by go_num⟩
            by_cases e : j = c
            · rw [e, ← HZ.out]; exact HD2.out
            · exact HJ.out.2.1 j (by omega)
        · have HE : Hid (c = m) := (by omega : c = m)
          have bc : ¬ (c : Int) < (m : Int) := by omega
          clear hg hP hB hX
          go_wp2_with fail
          go_roundg (R - (k + 1))
          case measure => have := HK.out.1; omega
          case rel =>
            refine ⟨k + 1, ⟨rfl, by omega, fun r hr => ?_, HJ.out.2.2⟩, by go_num⟩
            by_cases e : r = k
            · rw [e, ← HM2.out]
              exact ⟨HD.out.2, by rw [← HN.out]; exact HD.out.1, fun j hj => HJ.out.2.1 j (by rw [HE.out]; exact hj)⟩
            · exact HK.out.2.1 r (by omega)
    · have bk : ¬ (k : Int) < (R : Int) := by omega
      have HE : Hid (k = R) := (by omega : k = R)
      clear hg hP hB hX
      go_wp2_with fail
      go_ret
      refine ⟨true, rfl, ⟨fun _ => ?_, fun _ => rfl⟩, HK.out.2.2.1⟩
      obtain ⟨q1, q2, q3⟩ := HM.out
      have z0 := HK.out.2.1
      rw [HE.out] at z0
      exact ⟨q1, q2, q3, (z0 0 (by omega)).1.1, (z0 0 (by omega)).1.2, fun r hr => ⟨(z0 r hr).2.1, fun j hj => (z0 r hr).2.2 j (by rw [(z0 r hr).2.1]; exact hj)⟩⟩
set_option maxHeartbeats 3200000 in
theorem hright_three (w : World) (x : Value) (S : Int) (R : Nat) (L : Nat → Nat) (Z : Nat → Nat → Int) (h : SgAt w x S R L Z) (hL : ∀ i, i < R → L i ≤ 1000) (r1 : 0 < R) (r7 : R ≤ 7) (r2 : R % 2 = 1) (q1 : ((R : Int) != 1) = true) (q3 : ((R : Int) != 3) = false) :
    Calls Try.prog 13 #[x] w (TellsB w (RightG R L Z)) := by
  obtain ⟨v, rfl, hv⟩ := h
  obtain ⟨A, cap, b, o, rfl, hc, hr⟩ := hv.read
  have BX : Hid (Below w.heap.size w (w.alloc (.cells #[.int .u64 S, .slice A R cap] 30))) := bel_alloc _ _
  have KX : Hid (Blk (w.alloc (.cells #[.int .u64 S, .slice A R cap] 30)) w.heap.size 30 #[.int .u64 S, .slice A R cap]) := Blk.new _ _ _
  have RW : Hid (RowsCells w A R b o L Z) := hr
  have HL : Hid (∀ i, i < R → L i ≤ 1000) := hL
  clear hv hr hL
  have HM : Hid (1 ≤ R ∧ R ≤ 7 ∧ R % 2 = 1) := ⟨r1, r7, r2⟩
  have hix : (0 : Int) < (R : Int) := by omega
  obtain ⟨rfl, A0, cap0, b0, o0, c0, _⟩ := RW.out 0 r1
  rw [Nat.add_zero] at c0
  obtain ⟨n0, hn0⟩ : ∃ n0, n0 = L 0 := ⟨_, rfl⟩
  rw [← hn0] at c0
  have HN : Hid (n0 = L 0) := hn0
  have C0 : Hid (w.cell? ⟨b, o, none⟩ = some (.slice A0 n0 cap0)) := c0
  clear hn0 c0 r2
  go_enter Try.func13, Try.ntmps13
  go_wp2_with fail
  clear q1 q3
  go_loopg [4] R (fun gk i wr => ∃ k : Nat, (gk = R - k ∧ k ≤ R ∧ (∀ r, r < k → (1 ≤ L r ∧ L r ≤ 256) ∧ L r = L 0 ∧ ∀ j, j < L r → FitsI (Z r j)) ∧ Below w.heap.size w wr ∧ Blk wr w.heap.size 30 #[.int .u64 S, .slice (some ⟨b, o, none⟩) R cap]) ∧ i = .int .i64 (k : Int))
  case atStart => exact ⟨0, ⟨rfl, by omega, fun r hr => by omega, BX.out, KX.out⟩, rfl⟩
  case round =>
    clear BX KX
    obtain ⟨k, ⟨hg, hk, hP, hB, hX⟩, rfl⟩ := hrel
    have HK : Hid (gk = R - k ∧ (∀ r, r < k → (1 ≤ L r ∧ L r ≤ 256) ∧ L r = L 0 ∧ ∀ j, j < L r → FitsI (Z r j)) ∧ Below w.heap.size w wr ∧ Blk wr w.heap.size 30 #[.int .u64 S, .slice (some ⟨b, o, none⟩) R cap]) := ⟨hg, hP, hB, hX⟩
    have x2 : wr.cell? ⟨w.heap.size, 1, none⟩ = some (.slice (some ⟨b, o, none⟩) R cap) := hX.cell 1
    have c0 : wr.cell? ⟨b, o, none⟩ = some (.slice A0 n0 cap0) := keep_of_below hB _ _ C0.out
    by_cases hz : k < R
    · obtain ⟨_, A', cap', b', o', ck, lk, fk, gk'⟩ := RW.out k hz
      have bk : (k : Int) < (R : Int) := by omega
      have bk0 : (0 : Int) ≤ (k : Int) := by omega
      have ck := keep_of_below hB _ _ ck
      have lk1 := HL.out k hz
      obtain ⟨m, hm⟩ : ∃ m, m = L k := ⟨_, rfl⟩
      have CK : Hid (w.cell? ⟨b, o + k, none⟩ = some (.slice A' m cap')) := by rw [hm]; assumption
      rw [← hm] at ck lk1 fk gk'
      have FK : Hid ((0 < m → A' = some ⟨b', o', none⟩) ∧ ∀ j, j < m → w.cell? ⟨b', o' + j, none⟩ = some (.int .i64 (Z k j))) := ⟨fk, gk'⟩
      have HM2 : Hid (m = L k) := hm
      clear hm lk fk gk' hg hP hB hX
      by_cases d1 : m = 0
      · have e1 : ((m : Int) == 0) = true := by simp; omega
        go_wp2_with fail
        go_ret
        exact ⟨false, rfl, ⟨fun h => (by cases h), fun h => by have a1 := (h.2.2.2.2.2 k hz).1; have a2 := h.2.2.2.1; rw [← HM2.out] at a1; omega⟩, HK.out.2.2.1⟩
      have e1 : ((m : Int) == 0) = false := by simp; omega
      by_cases d2 : (m : Int) > 256
      · go_wp2_with fail
        go_ret
        exact ⟨false, rfl, ⟨fun h => (by cases h), fun h => by have a1 := (h.2.2.2.2.2 k hz).1; have a2 := h.2.2.2.2.1; rw [← HM2.out] at a1; omega⟩, HK.out.2.2.1⟩
      by_cases d3 : m = n0
      rotate_left
      · have e3 : ((m : Int) != (n0 : Int)) = true := by simp; omega
        have HD : Hid (m ≠ n0) := d3
        clear d3
        go_wp2_with fail
        go_ret
        exact ⟨false, rfl, ⟨fun h => (by cases h), fun h => absurd (h.2.2.2.2.2 k hz).1 (by rw [← HM2.out, ← HN.out]; exact HD.out)⟩, HK.out.2.2.1⟩
      have e3 : ((m : Int) != (n0 : Int)) = false := by simp; omega
      have HD : Hid (m = n0 ∧ 1 ≤ m ∧ m ≤ 256) := ⟨d3, by omega, by omega⟩
      have m1 : 1 ≤ m := by omega
      clear d3
      go_wp2_with fail
      obtain rfl := FK.out.1 (by omega)
      clear x2 c0 ck e1 e3 d1 d2
      go_loopg [6] m (fun gj i wi => ∃ c : Nat, (gj = m - c ∧ c ≤ m ∧ (∀ j, j < c → FitsI (Z k j)) ∧ Below w.heap.size w wi ∧ Blk wi w.heap.size 30 #[.int .u64 S, .slice (some ⟨b, o, none⟩) R cap]) ∧ i = .int .i64 (c : Int))
      case atStart => exact ⟨0, ⟨rfl, by omega, fun r hr => by omega, HK.out.2.2⟩, rfl⟩
      case round =>
        obtain ⟨c, ⟨hg, hc', hP, hB, hX⟩, rfl⟩ := hrel
        have HJ : Hid (gk = m - c ∧ (∀ j, j < c → FitsI (Z k j)) ∧ Below w.heap.size w wr ∧ Blk wr w.heap.size 30 #[.int .u64 S, .slice (some ⟨b, o, none⟩) R cap]) := ⟨hg, hP, hB, hX⟩
        have x2 : wr.cell? ⟨w.heap.size, 1, none⟩ = some (.slice (some ⟨b, o, none⟩) R cap) := hX.cell 1
        have ck : wr.cell? ⟨b, o + k, none⟩ = some (.slice (some ⟨b', o', none⟩) m cap') := keep_of_below hB _ _ CK.out
        by_cases hcl : c < m
        · have bc : (c : Int) < (m : Int) := by omega
          have bc0 : (0 : Int) ≤ (c : Int) := by omega
          obtain ⟨z, hzz⟩ : ∃ z, z = Z k c := ⟨_, rfl⟩
          have cc : wr.cell? ⟨b', o' + c, none⟩ = some (.int .i64 z) := by rw [hzz]; exact keep_of_below hB _ _ (FK.out.2 c hcl)
          have HZ : Hid (z = Z k c) := hzz
          clear hzz hg hP hB hX
          by_cases d1 : FitsI z
          rotate_left
          · have ft := fitsB1_no d1
            have HD : Hid (¬ FitsI z) := d1
            clear d1
            go_wp2_with fail
            refine (hfits_any _ _).mono ?_
            rw [ft]
            clear ft
            rintro e u1 ⟨rfl, rfl⟩
            go_wp2_with fail
            go_ret
            exact ⟨false, rfl, ⟨fun h => (by cases h), fun h => by have := (h.2.2.2.2.2 k hz).2 c (by rw [← (h.2.2.2.2.2 k hz).1, ← HM2.out]; exact hcl); rw [← HZ.out] at this; exact absurd this HD.out⟩, HJ.out.2.2.1⟩
          have ft := fitsB1_yes d1
          have HD2 : Hid (FitsI z) := d1
          clear d1
          go_wp2_with fail
          refine (hfits_any _ _).mono ?_
          rw [ft]
          clear ft
          rintro e u1 ⟨rfl, rfl⟩
          go_wp2_with fail
          go_roundg (m - (c + 1))
          case measure => have := HJ.out.1; omega
          case rel =>
            refine ⟨c + 1, ⟨rfl, by omega, fun j hj => ?_, HJ.out.2.2.1, HJ.out.2.2.2⟩, by go_num⟩
            by_cases e : j = c
            · rw [e, ← HZ.out]; exact HD2.out
            · exact HJ.out.2.1 j (by omega)
        · have HE : Hid (c = m) := (by omega : c = m)
          have bc : ¬ (c : Int) < (m : Int) := by omega
          clear hg hP hB hX
          go_wp2_with fail
          go_roundg (R - (k + 1))
          case measure => have := HK.out.1; omega
          case rel =>
            refine ⟨k + 1, ⟨rfl, by omega, fun r hr => ?_, HJ.out.2.2⟩, by go_num⟩
            by_cases e : r = k
            · rw [e, ← HM2.out]
              exact ⟨HD.out.2, by rw [← HN.out]; exact HD.out.1, fun j hj => HJ.out.2.1 j (by rw [HE.out]; exact hj)⟩
            · exact HK.out.2.1 r (by omega)
    · have bk : ¬ (k : Int) < (R : Int) := by omega
      have HE : Hid (k = R) := (by omega : k = R)
      clear hg hP hB hX
      go_wp2_with fail
      go_ret
      refine ⟨true, rfl, ⟨fun _ => ?_, fun _ => rfl⟩, HK.out.2.2.1⟩
      obtain ⟨q1, q2, q3⟩ := HM.out
      have z0 := HK.out.2.1
      rw [HE.out] at z0
      exact ⟨q1, q2, q3, (z0 0 (by omega)).1.1, (z0 0 (by omega)).1.2, fun r hr => ⟨(z0 r hr).2.1, fun j hj => (z0 r hr).2.2 j (by rw [(z0 r hr).2.1]; exact hj)⟩⟩
set_option maxHeartbeats 3200000 in
theorem hright_five (w : World) (x : Value) (S : Int) (R : Nat) (L : Nat → Nat) (Z : Nat → Nat → Int) (h : SgAt w x S R L Z) (hL : ∀ i, i < R → L i ≤ 1000) (r1 : 0 < R) (r7 : R ≤ 7) (r2 : R % 2 = 1) (q1 : ((R : Int) != 1) = true) (q3 : ((R : Int) != 3) = true) (q5 : ((R : Int) != 5) = false) :
    Calls Try.prog 13 #[x] w (TellsB w (RightG R L Z)) := by
  obtain ⟨v, rfl, hv⟩ := h
  obtain ⟨A, cap, b, o, rfl, hc, hr⟩ := hv.read
  have BX : Hid (Below w.heap.size w (w.alloc (.cells #[.int .u64 S, .slice A R cap] 30))) := bel_alloc _ _
  have KX : Hid (Blk (w.alloc (.cells #[.int .u64 S, .slice A R cap] 30)) w.heap.size 30 #[.int .u64 S, .slice A R cap]) := Blk.new _ _ _
  have RW : Hid (RowsCells w A R b o L Z) := hr
  have HL : Hid (∀ i, i < R → L i ≤ 1000) := hL
  clear hv hr hL
  have HM : Hid (1 ≤ R ∧ R ≤ 7 ∧ R % 2 = 1) := ⟨r1, r7, r2⟩
  have hix : (0 : Int) < (R : Int) := by omega
  obtain ⟨rfl, A0, cap0, b0, o0, c0, _⟩ := RW.out 0 r1
  rw [Nat.add_zero] at c0
  obtain ⟨n0, hn0⟩ : ∃ n0, n0 = L 0 := ⟨_, rfl⟩
  rw [← hn0] at c0
  have HN : Hid (n0 = L 0) := hn0
  have C0 : Hid (w.cell? ⟨b, o, none⟩ = some (.slice A0 n0 cap0)) := c0
  clear hn0 c0 r2
  go_enter Try.func13, Try.ntmps13
  go_wp2_with fail
  clear q1 q3 q5
  go_loopg [4] R (fun gk i wr => ∃ k : Nat, (gk = R - k ∧ k ≤ R ∧ (∀ r, r < k → (1 ≤ L r ∧ L r ≤ 256) ∧ L r = L 0 ∧ ∀ j, j < L r → FitsI (Z r j)) ∧ Below w.heap.size w wr ∧ Blk wr w.heap.size 30 #[.int .u64 S, .slice (some ⟨b, o, none⟩) R cap]) ∧ i = .int .i64 (k : Int))
  case atStart => exact ⟨0, ⟨rfl, by omega, fun r hr => by omega, BX.out, KX.out⟩, rfl⟩
  case round =>
    clear BX KX
    obtain ⟨k, ⟨hg, hk, hP, hB, hX⟩, rfl⟩ := hrel
    have HK : Hid (gk = R - k ∧ (∀ r, r < k → (1 ≤ L r ∧ L r ≤ 256) ∧ L r = L 0 ∧ ∀ j, j < L r → FitsI (Z r j)) ∧ Below w.heap.size w wr ∧ Blk wr w.heap.size 30 #[.int .u64 S, .slice (some ⟨b, o, none⟩) R cap]) := ⟨hg, hP, hB, hX⟩
    have x2 : wr.cell? ⟨w.heap.size, 1, none⟩ = some (.slice (some ⟨b, o, none⟩) R cap) := hX.cell 1
    have c0 : wr.cell? ⟨b, o, none⟩ = some (.slice A0 n0 cap0) := keep_of_below hB _ _ C0.out
    by_cases hz : k < R
    · obtain ⟨_, A', cap', b', o', ck, lk, fk, gk'⟩ := RW.out k hz
      have bk : (k : Int) < (R : Int) := by omega
      have bk0 : (0 : Int) ≤ (k : Int) := by omega
      have ck := keep_of_below hB _ _ ck
      have lk1 := HL.out k hz
      obtain ⟨m, hm⟩ : ∃ m, m = L k := ⟨_, rfl⟩
      have CK : Hid (w.cell? ⟨b, o + k, none⟩ = some (.slice A' m cap')) := by rw [hm]; assumption
      rw [← hm] at ck lk1 fk gk'
      have FK : Hid ((0 < m → A' = some ⟨b', o', none⟩) ∧ ∀ j, j < m → w.cell? ⟨b', o' + j, none⟩ = some (.int .i64 (Z k j))) := ⟨fk, gk'⟩
      have HM2 : Hid (m = L k) := hm
      clear hm lk fk gk' hg hP hB hX
      by_cases d1 : m = 0
      · have e1 : ((m : Int) == 0) = true := by simp; omega
        go_wp2_with fail
        go_ret
        exact ⟨false, rfl, ⟨fun h => (by cases h), fun h => by have a1 := (h.2.2.2.2.2 k hz).1; have a2 := h.2.2.2.1; rw [← HM2.out] at a1; omega⟩, HK.out.2.2.1⟩
      have e1 : ((m : Int) == 0) = false := by simp; omega
      by_cases d2 : (m : Int) > 256
      · go_wp2_with fail
        go_ret
        exact ⟨false, rfl, ⟨fun h => (by cases h), fun h => by have a1 := (h.2.2.2.2.2 k hz).1; have a2 := h.2.2.2.2.1; rw [← HM2.out] at a1; omega⟩, HK.out.2.2.1⟩
      by_cases d3 : m = n0
      rotate_left
      · have e3 : ((m : Int) != (n0 : Int)) = true := by simp; omega
        have HD : Hid (m ≠ n0) := d3
        clear d3
        go_wp2_with fail
        go_ret
        exact ⟨false, rfl, ⟨fun h => (by cases h), fun h => absurd (h.2.2.2.2.2 k hz).1 (by rw [← HM2.out, ← HN.out]; exact HD.out)⟩, HK.out.2.2.1⟩
      have e3 : ((m : Int) != (n0 : Int)) = false := by simp; omega
      have HD : Hid (m = n0 ∧ 1 ≤ m ∧ m ≤ 256) := ⟨d3, by omega, by omega⟩
      have m1 : 1 ≤ m := by omega
      clear d3
      go_wp2_with fail
      obtain rfl := FK.out.1 (by omega)
      clear x2 c0 ck e1 e3 d1 d2
      go_loopg [6] m (fun gj i wi => ∃ c : Nat, (gj = m - c ∧ c ≤ m ∧ (∀ j, j < c → FitsI (Z k j)) ∧ Below w.heap.size w wi ∧ Blk wi w.heap.size 30 #[.int .u64 S, .slice (some ⟨b, o, none⟩) R cap]) ∧ i = .int .i64 (c : Int))
      case atStart => exact ⟨0, ⟨rfl, by omega, fun r hr => by omega, HK.out.2.2⟩, rfl⟩
      case round =>
        obtain ⟨c, ⟨hg, hc', hP, hB, hX⟩, rfl⟩ := hrel
        have HJ : Hid (gk = m - c ∧ (∀ j, j < c → FitsI (Z k j)) ∧ Below w.heap.size w wr ∧ Blk wr w.heap.size 30 #[.int .u64 S, .slice (some ⟨b, o, none⟩) R cap]) := ⟨hg, hP, hB, hX⟩
        have x2 : wr.cell? ⟨w.heap.size, 1, none⟩ = some (.slice (some ⟨b, o, none⟩) R cap) := hX.cell 1
        have ck : wr.cell? ⟨b, o + k, none⟩ = some (.slice (some ⟨b', o', none⟩) m cap') := keep_of_below hB _ _ CK.out
        by_cases hcl : c < m
        · have bc : (c : Int) < (m : Int) := by omega
          have bc0 : (0 : Int) ≤ (c : Int) := by omega
          obtain ⟨z, hzz⟩ : ∃ z, z = Z k c := ⟨_, rfl⟩
          have cc : wr.cell? ⟨b', o' + c, none⟩ = some (.int .i64 z) := by rw [hzz]; exact keep_of_below hB _ _ (FK.out.2 c hcl)
          have HZ : Hid (z = Z k c) := hzz
          clear hzz hg hP hB hX
          by_cases d1 : FitsI z
          rotate_left
          · have ft := fitsB1_no d1
            have HD : Hid (¬ FitsI z) := d1
            clear d1
            go_wp2_with fail
            refine (hfits_any _ _).mono ?_
            rw [ft]
            clear ft
            rintro e u1 ⟨rfl, rfl⟩
            go_wp2_with fail
            go_ret
            exact ⟨false, rfl, ⟨fun h => (by cases h), fun h => by have := (h.2.2.2.2.2 k hz).2 c (by rw [← (h.2.2.2.2.2 k hz).1, ← HM2.out]; exact hcl); rw [← HZ.out] at this; exact absurd this HD.out⟩, HJ.out.2.2.1⟩
          have ft := fitsB1_yes d1
          have HD2 : Hid (FitsI z) := d1
          clear d1
          go_wp2_with fail
          refine (hfits_any _ _).mono ?_
          rw [ft]
          clear ft
          rintro e u1 ⟨rfl, rfl⟩
          go_wp2_with fail
          go_roundg (m - (c + 1))
          case measure => have := HJ.out.1; omega
          case rel =>
            refine ⟨c + 1, ⟨rfl, by omega, fun j hj => ?_, HJ.out.2.2.1, HJ.out.2.2.2⟩, by go_num⟩
            by_cases e : j = c
            · rw [e, ← HZ.out]; exact HD2.out
            · exact HJ.out.2.1 j (by omega)
        · have HE : Hid (c = m) := (by omega : c = m)
          have bc : ¬ (c : Int) < (m : Int) := by omega
          clear hg hP hB hX
          go_wp2_with fail
          go_roundg (R - (k + 1))
          case measure => have := HK.out.1; omega
          case rel =>
            refine ⟨k + 1, ⟨rfl, by omega, fun r hr => ?_, HJ.out.2.2⟩, by go_num⟩
            by_cases e : r = k
            · rw [e, ← HM2.out]
              exact ⟨HD.out.2, by rw [← HN.out]; exact HD.out.1, fun j hj => HJ.out.2.1 j (by rw [HE.out]; exact hj)⟩
            · exact HK.out.2.1 r (by omega)
    · have bk : ¬ (k : Int) < (R : Int) := by omega
      have HE : Hid (k = R) := (by omega : k = R)
      clear hg hP hB hX
      go_wp2_with fail
      go_ret
      refine ⟨true, rfl, ⟨fun _ => ?_, fun _ => rfl⟩, HK.out.2.2.1⟩
      obtain ⟨q1, q2, q3⟩ := HM.out
      have z0 := HK.out.2.1
      rw [HE.out] at z0
      exact ⟨q1, q2, q3, (z0 0 (by omega)).1.1, (z0 0 (by omega)).1.2, fun r hr => ⟨(z0 r hr).2.1, fun j hj => (z0 r hr).2.2 j (by rw [(z0 r hr).2.1]; exact hj)⟩⟩
set_option maxHeartbeats 3200000 in
theorem hright_seven (w : World) (x : Value) (S : Int) (R : Nat) (L : Nat → Nat) (Z : Nat → Nat → Int) (h : SgAt w x S R L Z) (hL : ∀ i, i < R → L i ≤ 1000) (r1 : 0 < R) (r7 : R ≤ 7) (r2 : R % 2 = 1) (q1 : ((R : Int) != 1) = true) (q3 : ((R : Int) != 3) = true) (q5 : ((R : Int) != 5) = true) (q7 : ((R : Int) != 7) = false) :
    Calls Try.prog 13 #[x] w (TellsB w (RightG R L Z)) := by
  obtain ⟨v, rfl, hv⟩ := h
  obtain ⟨A, cap, b, o, rfl, hc, hr⟩ := hv.read
  have BX : Hid (Below w.heap.size w (w.alloc (.cells #[.int .u64 S, .slice A R cap] 30))) := bel_alloc _ _
  have KX : Hid (Blk (w.alloc (.cells #[.int .u64 S, .slice A R cap] 30)) w.heap.size 30 #[.int .u64 S, .slice A R cap]) := Blk.new _ _ _
  have RW : Hid (RowsCells w A R b o L Z) := hr
  have HL : Hid (∀ i, i < R → L i ≤ 1000) := hL
  clear hv hr hL
  have HM : Hid (1 ≤ R ∧ R ≤ 7 ∧ R % 2 = 1) := ⟨r1, r7, r2⟩
  have hix : (0 : Int) < (R : Int) := by omega
  obtain ⟨rfl, A0, cap0, b0, o0, c0, _⟩ := RW.out 0 r1
  rw [Nat.add_zero] at c0
  obtain ⟨n0, hn0⟩ : ∃ n0, n0 = L 0 := ⟨_, rfl⟩
  rw [← hn0] at c0
  have HN : Hid (n0 = L 0) := hn0
  have C0 : Hid (w.cell? ⟨b, o, none⟩ = some (.slice A0 n0 cap0)) := c0
  clear hn0 c0 r2
  go_enter Try.func13, Try.ntmps13
  go_wp2_with fail
  clear q1 q3 q5 q7
  go_loopg [4] R (fun gk i wr => ∃ k : Nat, (gk = R - k ∧ k ≤ R ∧ (∀ r, r < k → (1 ≤ L r ∧ L r ≤ 256) ∧ L r = L 0 ∧ ∀ j, j < L r → FitsI (Z r j)) ∧ Below w.heap.size w wr ∧ Blk wr w.heap.size 30 #[.int .u64 S, .slice (some ⟨b, o, none⟩) R cap]) ∧ i = .int .i64 (k : Int))
  case atStart => exact ⟨0, ⟨rfl, by omega, fun r hr => by omega, BX.out, KX.out⟩, rfl⟩
  case round =>
    clear BX KX
    obtain ⟨k, ⟨hg, hk, hP, hB, hX⟩, rfl⟩ := hrel
    have HK : Hid (gk = R - k ∧ (∀ r, r < k → (1 ≤ L r ∧ L r ≤ 256) ∧ L r = L 0 ∧ ∀ j, j < L r → FitsI (Z r j)) ∧ Below w.heap.size w wr ∧ Blk wr w.heap.size 30 #[.int .u64 S, .slice (some ⟨b, o, none⟩) R cap]) := ⟨hg, hP, hB, hX⟩
    have x2 : wr.cell? ⟨w.heap.size, 1, none⟩ = some (.slice (some ⟨b, o, none⟩) R cap) := hX.cell 1
    have c0 : wr.cell? ⟨b, o, none⟩ = some (.slice A0 n0 cap0) := keep_of_below hB _ _ C0.out
    by_cases hz : k < R
    · obtain ⟨_, A', cap', b', o', ck, lk, fk, gk'⟩ := RW.out k hz
      have bk : (k : Int) < (R : Int) := by omega
      have bk0 : (0 : Int) ≤ (k : Int) := by omega
      have ck := keep_of_below hB _ _ ck
      have lk1 := HL.out k hz
      obtain ⟨m, hm⟩ : ∃ m, m = L k := ⟨_, rfl⟩
      have CK : Hid (w.cell? ⟨b, o + k, none⟩ = some (.slice A' m cap')) := by rw [hm]; assumption
      rw [← hm] at ck lk1 fk gk'
      have FK : Hid ((0 < m → A' = some ⟨b', o', none⟩) ∧ ∀ j, j < m → w.cell? ⟨b', o' + j, none⟩ = some (.int .i64 (Z k j))) := ⟨fk, gk'⟩
      have HM2 : Hid (m = L k) := hm
      clear hm lk fk gk' hg hP hB hX
      by_cases d1 : m = 0
      · have e1 : ((m : Int) == 0) = true := by simp; omega
        go_wp2_with fail
        go_ret
        exact ⟨false, rfl, ⟨fun h => (by cases h), fun h => by have a1 := (h.2.2.2.2.2 k hz).1; have a2 := h.2.2.2.1; rw [← HM2.out] at a1; omega⟩, HK.out.2.2.1⟩
      have e1 : ((m : Int) == 0) = false := by simp; omega
      by_cases d2 : (m : Int) > 256
      · go_wp2_with fail
        go_ret
        exact ⟨false, rfl, ⟨fun h => (by cases h), fun h => by have a1 := (h.2.2.2.2.2 k hz).1; have a2 := h.2.2.2.2.1; rw [← HM2.out] at a1; omega⟩, HK.out.2.2.1⟩
      by_cases d3 : m = n0
      rotate_left
      · have e3 : ((m : Int) != (n0 : Int)) = true := by simp; omega
        have HD : Hid (m ≠ n0) := d3
        clear d3
        go_wp2_with fail
        go_ret
        exact ⟨false, rfl, ⟨fun h => (by cases h), fun h => absurd (h.2.2.2.2.2 k hz).1 (by rw [← HM2.out, ← HN.out]; exact HD.out)⟩, HK.out.2.2.1⟩
      have e3 : ((m : Int) != (n0 : Int)) = false := by simp; omega
      have HD : Hid (m = n0 ∧ 1 ≤ m ∧ m ≤ 256) := ⟨d3, by omega, by omega⟩
      have m1 : 1 ≤ m := by omega
      clear d3
      go_wp2_with fail
      obtain rfl := FK.out.1 (by omega)
      clear x2 c0 ck e1 e3 d1 d2
      go_loopg [6] m (fun gj i wi => ∃ c : Nat, (gj = m - c ∧ c ≤ m ∧ (∀ j, j < c → FitsI (Z k j)) ∧ Below w.heap.size w wi ∧ Blk wi w.heap.size 30 #[.int .u64 S, .slice (some ⟨b, o, none⟩) R cap]) ∧ i = .int .i64 (c : Int))
      case atStart => exact ⟨0, ⟨rfl, by omega, fun r hr => by omega, HK.out.2.2⟩, rfl⟩
      case round =>
        obtain ⟨c, ⟨hg, hc', hP, hB, hX⟩, rfl⟩ := hrel
        have HJ : Hid (gk = m - c ∧ (∀ j, j < c → FitsI (Z k j)) ∧ Below w.heap.size w wr ∧ Blk wr w.heap.size 30 #[.int .u64 S, .slice (some ⟨b, o, none⟩) R cap]) := ⟨hg, hP, hB, hX⟩
        have x2 : wr.cell? ⟨w.heap.size, 1, none⟩ = some (.slice (some ⟨b, o, none⟩) R cap) := hX.cell 1
        have ck : wr.cell? ⟨b, o + k, none⟩ = some (.slice (some ⟨b', o', none⟩) m cap') := keep_of_below hB _ _ CK.out
        by_cases hcl : c < m
        · have bc : (c : Int) < (m : Int) := by omega
          have bc0 : (0 : Int) ≤ (c : Int) := by omega
          obtain ⟨z, hzz⟩ : ∃ z, z = Z k c := ⟨_, rfl⟩
          have cc : wr.cell? ⟨b', o' + c, none⟩ = some (.int .i64 z) := by rw [hzz]; exact keep_of_below hB _ _ (FK.out.2 c hcl)
          have HZ : Hid (z = Z k c) := hzz
          clear hzz hg hP hB hX
          by_cases d1 : FitsI z
          rotate_left
          · have ft := fitsB1_no d1
            have HD : Hid (¬ FitsI z) := d1
            clear d1
            go_wp2_with fail
            refine (hfits_any _ _).mono ?_
            rw [ft]
            clear ft
            rintro e u1 ⟨rfl, rfl⟩
            go_wp2_with fail
            go_ret
            exact ⟨false, rfl, ⟨fun h => (by cases h), fun h => by have := (h.2.2.2.2.2 k hz).2 c (by rw [← (h.2.2.2.2.2 k hz).1, ← HM2.out]; exact hcl); rw [← HZ.out] at this; exact absurd this HD.out⟩, HJ.out.2.2.1⟩
          have ft := fitsB1_yes d1
          have HD2 : Hid (FitsI z) := d1
          clear d1
          go_wp2_with fail
          refine (hfits_any _ _).mono ?_
          rw [ft]
          clear ft
          rintro e u1 ⟨rfl, rfl⟩
          go_wp2_with fail
          go_roundg (m - (c + 1))
          case measure => have := HJ.out.1; omega
          case rel =>
            refine ⟨c + 1, ⟨rfl, by omega, fun j hj => ?_, HJ.out.2.2.1, HJ.out.2.2.2⟩, by go_num⟩
            by_cases e : j = c
            · rw [e, ← HZ.out]; exact HD2.out
            · exact HJ.out.2.1 j (by omega)
        · have HE : Hid (c = m) := (by omega : c = m)
          have bc : ¬ (c : Int) < (m : Int) := by omega
          clear hg hP hB hX
          go_wp2_with fail
          go_roundg (R - (k + 1))
          case measure => have := HK.out.1; omega
          case rel =>
            refine ⟨k + 1, ⟨rfl, by omega, fun r hr => ?_, HJ.out.2.2⟩, by go_num⟩
            by_cases e : r = k
            · rw [e, ← HM2.out]
              exact ⟨HD.out.2, by rw [← HN.out]; exact HD.out.1, fun j hj => HJ.out.2.1 j (by rw [HE.out]; exact hj)⟩
            · exact HK.out.2.1 r (by omega)
    · have bk : ¬ (k : Int) < (R : Int) := by omega
      have HE : Hid (k = R) := (by omega : k = R)
      clear hg hP hB hX
      go_wp2_with fail
      go_ret
      refine ⟨true, rfl, ⟨fun _ => ?_, fun _ => rfl⟩, HK.out.2.2.1⟩
      obtain ⟨q1, q2, q3⟩ := HM.out
      have z0 := HK.out.2.1
      rw [HE.out] at z0
      exact ⟨q1, q2, q3, (z0 0 (by omega)).1.1, (z0 0 (by omega)).1.2, fun r hr => ⟨(z0 r hr).2.1, fun j hj => (z0 r hr).2.2 j (by rw [(z0 r hr).2.1]; exact hj)⟩⟩
theorem hright_any (w : World) (x : Value) (S : Int) (R : Nat) (L : Nat → Nat) (Z : Nat → Nat → Int) (h : SgAt w x S R L Z) (hL : ∀ i, i < R → L i ≤ 1000) :
    Calls Try.prog 13 #[x] w (TellsB w (RightG R L Z)) := by
  have : (R ≠ 1 ∧ R ≠ 3 ∧ R ≠ 5 ∧ R ≠ 7) ∨ R = 1 ∨ R = 3 ∨ R = 5 ∨ R = 7 := by omega
  rcases this with e | rfl | rfl | rfl | rfl
  · exact hright_odd w x S R L Z h e
  · exact hright_one w x S 1 L Z h hL (by omega) (by omega) rfl rfl
  · exact hright_three w x S 3 L Z h hL (by omega) (by omega) rfl rfl rfl
  · exact hright_five w x S 5 L Z h hL (by omega) (by omega) rfl rfl rfl rfl
  · exact hright_seven w x S 7 L Z h hL (by omega) (by omega) rfl rfl rfl rfl rfl
set_option maxHeartbeats 800000 in
theorem hcell_any (S : Int) (s : ByteArray) (i n : Nat) (w : World) (uS : U S) (hs : s.size ≤ 100000) (hi : i ≤ 100) (hn : 1 ≤ n) (hn1 : n ≤ 1000) :
    Calls Try.prog 19 #[.int .u64 S, .string s, .int .i64 (i : Int), .int .i64 (n : Int)] w fun e w' => e = .returned (.int .i64 (cellN S s n i : Int)) ∧ Below w.heap.size w w' := by
  have HP : Hid (cellF (rowF S ((2 * i : Nat) : Int)) s n = (cellN S s n i : Int)) := placeN_eq S s n (2 * i) hn
  have RO : Hid (∀ w, Calls Try.prog 36 #[.int .u64 S, .int .i64 (2 * (i : Int))] w fun e w' => e = .returned (.int .u64 (rowF S ((2 * i : Nat) : Int))) ∧ w' = w) := fun w => by have := rrow_any S (2 * i) w uS (by omega); rw [show ((2 * i : Nat) : Int) = 2 * (i : Int) by omega] at this ⊢; exact this
  go_enter Try.func19, Try.ntmps19
  go_wp2_with fail
  refine (RO.out _).mono ?_
  rintro e u1 ⟨rfl, rfl⟩
  go_wp2_with fail
  refine (rcell_any _ s n _ (rowF_U S _) hs hn (by omega)).mono ?_
  rintro e u2 ⟨rfl, b2⟩
  go_wp2_with fail
  go_ret
  exact ⟨ret_int HP.out, b2⟩
set_option maxHeartbeats 800000 in
theorem rsign_any (a : Int) (s : ByteArray) (w : World) (ha : U a) (hs : s.size ≤ 100000) :
    Calls Try.prog 49 #[.int .u64 a, .string s] w fun e w' => e = .returned (.int .i64 (signF a s)) ∧ Below w.heap.size w w' := by
  have h0 := sumF_nn a s
  have h1 := sumF_lt a s
  have q0 : 0 ≤ sumF a s % 2 := by omega
  have q1 : sumF a s % 2 < 2 := by omega
  have SUM := L2.rsum_any a s w ha hs
  by_cases c : sumF a s % 2 = 1
  · have e : (sumF a s % 2 == 1) = true := by simpa using c
    have G : Hid (signF a s = 1) := if_pos c
    clear c
    generalize sumF a s = x at *
    go_enter Try.func49, Try.ntmps49
    go_wp2_with fail
    refine SUM.mono ?_
    rintro e u1 ⟨rfl, b1⟩
    go_wp2_with fail
    go_ret
    exact ⟨ret_int G.out.symm, b1⟩
  · have e : (sumF a s % 2 == 1) = false := by simpa using c
    have G : Hid (signF a s = -1) := if_neg c
    clear c
    generalize sumF a s = x at *
    go_enter Try.func49, Try.ntmps49
    go_wp2_with fail
    refine SUM.mono ?_
    rintro e u1 ⟨rfl, b1⟩
    go_wp2_with fail
    go_ret
    exact ⟨ret_int G.out.symm, b1⟩
set_option maxHeartbeats 800000 in
theorem hsign_any (S : Int) (s : ByteArray) (i : Nat) (w : World) (uS : U S) (hs : s.size ≤ 100000) (hi : i ≤ 100) :
    Calls Try.prog 37 #[.int .u64 S, .string s, .int .i64 (i : Int)] w fun e w' => e = .returned (.int .i64 (sgnN S s i)) ∧ Below w.heap.size w w' := by
  have RO : Hid (∀ w, Calls Try.prog 36 #[.int .u64 S, .int .i64 (2 * (i : Int) + 1)] w fun e w' => e = .returned (.int .u64 (rowF S ((2 * i + 1 : Nat) : Int))) ∧ w' = w) := fun w => by have := rrow_any S (2 * i + 1) w uS (by omega); rw [show ((2 * i + 1 : Nat) : Int) = 2 * (i : Int) + 1 by omega] at this ⊢; exact this
  go_enter Try.func37, Try.ntmps37
  go_wp2_with fail
  refine (RO.out _).mono ?_
  rintro e u1 ⟨rfl, rfl⟩
  go_wp2_with fail
  refine (rsign_any _ s _ (rowF_U S _) hs).mono ?_
  rintro e u2 ⟨rfl, b2⟩
  go_wp2_with fail
  go_ret
  exact ⟨rfl, b2⟩
def EqualG (S : Int) (R : Nat) (L : Nat → Nat) (Z : Nat → Nat → Int) (S' : Int) (R' : Nat) (L' : Nat → Nat) (Y : Nat → Nat → Int) : Prop := S = S' ∧ SameP R L Z R' L' Y
set_option maxHeartbeats 1600000 in
theorem hequal_any (w : World) (x y : Value) (S S' : Int) (R R' : Nat) (L L' : Nat → Nat) (Z Y : Nat → Nat → Int) (h : SgAt w x S R L Z) (h' : SgAt w y S' R' L' Y) (hR : R ≤ 1000) (hL : ∀ i, i < R → L i ≤ 1000) :
    Calls Try.prog 10 #[x, y] w (TellsB w (EqualG S R L Z S' R' L' Y)) := by
  obtain ⟨v, rfl, hv⟩ := h
  obtain ⟨v', rfl, hv'⟩ := h'
  have SC : Hid (∀ w1, Below w.heap.size w w1 → Calls Try.prog 28 #[v, v'] w1 (TellsB w1 (SameP R L Z R' L' Y))) := fun w1 b1 => same_any w1 v v' R R' L L' Z Y (hv.keep (keep_of_below b1)) (hv'.keep (keep_of_below b1)) hR hL
  obtain ⟨A, cap, b, o, rfl, hc, hr⟩ := hv.read
  obtain ⟨A', cap', b', o', rfl, hc', hr'⟩ := hv'.read
  have BX : Hid (Below w.heap.size w ((w.alloc (.cells #[.int .u64 S, .slice A R cap] 30)).alloc (.cells #[.int .u64 S', .slice A' R' cap'] 30))) := (bel_alloc _ _).alloc (by simp) _
  clear hv hv' hr hr' hL
  by_cases k1 : S = S'
  rotate_left
  · have q1 : (S == S') = false := by simpa using k1
    have HN : Hid (¬ S = S') := k1
    clear k1
    go_enter Try.func10, Try.ntmps10
    go_wp2_with fail
    go_ret
    exact ⟨false, rfl, ⟨fun h => (by cases h), fun h => absurd h.1 HN.out⟩, BX.out⟩
  subst k1
  go_enter Try.func10, Try.ntmps10
  go_wp2_with fail
  refine (SC.out _ BX.out).mono ?_
  rintro e u1 ⟨B, rfl, hB, b1⟩
  have HB : Hid (B = true ↔ SameP R L Z R' L' Y) := hB
  clear hB
  go_wp2_with fail
  go_ret
  exact ⟨B, rfl, ⟨fun h => ⟨rfl, HB.out.1 h⟩, fun h => HB.out.2 h.2⟩, bel_trans BX.out b1⟩
end Go.Proofs.Ytpjpgcjlbfgkdaa
