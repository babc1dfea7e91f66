
/-
  The sketch of the document (layer 11): what its functions that make no rows answer.
-/
import Derived.Test.YtpjpgcjlbfgkdaaLstRead
import Derived.Test.YtpjpgcjlbfgkdaaHashWords
import Derived.Deep.RegionWith
namespace Go.Proofs.Ytpjpgcjlbfgkdaa
open Go.RowKit Fm Bl Lt L2 Go.Deep
set_option linter.unusedVariables false

def SmallP (R : Nat) (L : Nat → Nat) : Prop := R < 20 ∧ ∀ i, i < R → L i ≤ 300
set_option maxHeartbeats 1600000 in
theorem small_any (w : World) (v : Value) (R : Nat) (L : Nat → Nat) (Z : Nat → Nat → Int) (h : RowsI w v R L Z) (hR : R ≤ 9223372036854775807) :
    Calls Try.prog 14 #[v] w (TellsW w (SmallP R L)) := by
  obtain ⟨A, cap, b, o, rfl, hc, hr⟩ := h.read
  have RW : Hid (RowsCells w A R b o L Z) := hr
  clear h hr
  go_enter Try.func14, Try.ntmps14
  go_wp2_with fail
  go_loop [3] (fun i => ∃ k : Nat, (k ≤ R ∧ ∀ r, r < k → L r ≤ 300) ∧ i = .int .i64 (k : Int)) (fun i => R - (intOf i).toNat)
  case atStart => exact ⟨0, ⟨by omega, fun r hr => by omega⟩, rfl⟩
  case round =>
    obtain ⟨k, hk, rfl⟩ := hrel
    have HK : Hid (k ≤ R ∧ ∀ r, r < k → L r ≤ 300) := hk
    have hkR := hk.1
    clear hk
    by_cases hz : k < R
    · obtain ⟨rfl, A', cap', b', o', ck, _⟩ := RW.out k hz
      have bk : (k : Int) < (R : Int) := by omega
      obtain ⟨m, hm⟩ : ∃ m, m = L k := ⟨_, rfl⟩
      rw [← hm] at ck
      have HM : Hid (m = L k) := hm
      clear hm
      by_cases e1 : m ≤ 300
      rotate_left
      · have e2 : (m : Int) > 300 := by omega
        go_wp2_with fail
        go_ret
        exact ⟨false, rfl, ⟨fun h => (by cases h), fun h => by have := h.2 k hz; rw [← HM.out] at this; omega⟩, rfl⟩
      have e2 : ¬ (m : Int) > 300 := by omega
      go_wp2_with fail
      go_round
      case rel =>
        refine ⟨k + 1, ⟨by omega, fun r hr => ?_⟩, by go_num⟩
        by_cases e : r = k
        · rw [e, ← HM.out]; omega
        · exact HK.out.2 r (by omega)
      case measure => simp [intOf]; omega
    · by_cases e : R < 20
      · have e2 : (R : Int) < 20 := by omega
        go_wp2_with fail
        go_ret
        exact ⟨true, by first | rfl | simp [e], ⟨fun _ => ⟨e, fun r hr => HK.out.2 r (by omega)⟩, fun _ => rfl⟩, rfl⟩
      · have e2 : ¬ (R : Int) < 20 := by omega
        go_wp2_with fail
        go_ret
        exact ⟨false, by first | rfl | simp [e], ⟨fun h => (by cases h), fun h => absurd h.1 (by omega)⟩, rfl⟩
def SameP (R : Nat) (L : Nat → Nat) (Z : Nat → Nat → Int) (R' : Nat) (L' : Nat → Nat) (Y : Nat → Nat → Int) : Prop := R = R' ∧ ∀ i, i < R → L i = L' i ∧ ∀ j, j < L i → Z i j = Y i j
set_option maxHeartbeats 3200000 in
theorem same_any (w : World) (v v' : Value) (R R' : Nat) (L L' : Nat → Nat) (Z Y : Nat → Nat → Int) (h : RowsI w v R L Z) (h' : RowsI w v' R' L' Y) (hR : R ≤ 1000) (hL : ∀ i, i < R → L i ≤ 1000) :
    Calls Try.prog 28 #[v, v'] w (TellsB w (SameP R L Z R' L' Y)) := by
  obtain ⟨A, cap, b, o, rfl, hc, hr⟩ := h.read
  obtain ⟨A', cap', b', o', rfl, hc', hr'⟩ := h'.read
  have RX : Hid (RowsCells w A R b o L Z) := hr
  have RY : Hid (RowsCells w A' R' b' o' L' Y) := hr'
  have HL : Hid (∀ i, i < R → L i ≤ 1000) := hL
  clear h h' hr hr' hL
  by_cases c1 : R = R'
  rotate_left
  · have e1 : ((R : Int) != (R' : Int)) = true := by simp; omega
    go_enter Try.func28, Try.ntmps28
    go_wp2_with fail
    go_ret
    exact ⟨false, rfl, ⟨fun h => (by cases h), fun h => absurd h.1 c1⟩, Below.refl _ _⟩
  subst c1
  go_enter Try.func28, Try.ntmps28
  go_wp2_with fail
  go_loopg [5] R (fun gk i wr => ∃ k : Nat, (gk = R - k ∧ k ≤ R ∧ (∀ r, r < k → L r = L' r ∧ ∀ j, j < L r → Z r j = Y r j) ∧ Below w.heap.size w wr) ∧ i = .int .i64 (k : Int))
  case atStart => exact ⟨0, ⟨rfl, by omega, fun r hr => by omega, Below.refl _ _⟩, rfl⟩
  case round =>
    obtain ⟨k, ⟨hg, hk, hP, hB⟩, rfl⟩ := hrel
    have HK : Hid (gk = R - k ∧ (∀ r, r < k → L r = L' r ∧ ∀ j, j < L r → Z r j = Y r j) ∧ Below w.heap.size w wr) := ⟨hg, hP, hB⟩
    by_cases hz : k < R
    · obtain ⟨rfl, A2, cap2, b2, o2, ck, _, fk, gk2⟩ := RX.out k hz
      obtain ⟨rfl, A3, cap3, b3, o3, dk, _, fk3, gk3⟩ := RY.out k hz
      have bk : (k : Int) < (R : Int) := by omega
      have bk0 : (0 : Int) ≤ (k : Int) := by omega
      have lk1 := HL.out k hz
      obtain ⟨m, hm⟩ : ∃ m, m = L k := ⟨_, rfl⟩
      obtain ⟨m', hm'⟩ : ∃ m', m' = L' k := ⟨_, rfl⟩
      rw [← hm] at ck lk1 fk gk2
      rw [← hm'] at dk fk3 gk3
      have HM : Hid (m = L k ∧ m' = L' k) := ⟨hm, hm'⟩
      have CK : Hid (w.cell? ⟨b, o + k, none⟩ = some (.slice A2 m cap2) ∧ w.cell? ⟨b', o' + k, none⟩ = some (.slice A3 m' cap3)) := ⟨ck, dk⟩
      have ck := keep_of_below hB _ _ ck
      have dk := keep_of_below hB _ _ dk
      have FK : Hid ((0 < m → A2 = some ⟨b2, o2, none⟩) ∧ ∀ j, j < m → w.cell? ⟨b2, o2 + j, none⟩ = some (.int .i64 (Z k j))) := ⟨fk, gk2⟩
      have FY : Hid ((0 < m' → A3 = some ⟨b3, o3, none⟩) ∧ ∀ j, j < m' → w.cell? ⟨b3, o3 + j, none⟩ = some (.int .i64 (Y k j))) := ⟨fk3, gk3⟩
      clear hm hm' fk gk2 fk3 gk3 hg hP hB
      by_cases d1 : m = m'
      rotate_left
      · have e1 : ((m : Int) != (m' : Int)) = true := by simp; omega
        have HD : Hid (m ≠ m') := d1
        clear d1
        go_wp2_with fail
        go_quiet (fail)
        go_wp2_with fail
        go_ret
        exact ⟨false, rfl, ⟨fun h => (by cases h), fun h => absurd (h.2 k hz).1 (by rw [← HM.out.1, ← HM.out.2]; exact HD.out)⟩, below_drewN HK.out.2.2 nq⟩
      subst d1
      go_wp2_with fail
      go_quiet (fail)
      go_wp2_with fail
      clear ck dk
      go_loopg [6] m (fun gj i wi => ∃ c : Nat, (gj = m - c ∧ c ≤ m ∧ (∀ j, j < c → Z k j = Y k j) ∧ Below w.heap.size w wi) ∧ i = .int .i64 (c : Int))
      case atStart => exact ⟨0, ⟨rfl, by omega, fun r hr => by omega, below_drewN HK.out.2.2 nq⟩, rfl⟩
      case round =>
        obtain ⟨c, ⟨hg, hc2, hP, hB⟩, rfl⟩ := hrel
        have HJ : Hid (gk = m - c ∧ (∀ j, j < c → Z k j = Y k j) ∧ Below w.heap.size w wr) := ⟨hg, hP, hB⟩
        have ck : wr.cell? ⟨b, o + k, none⟩ = some (.slice A2 m cap2) := keep_of_below hB _ _ CK.out.1
        have dk : wr.cell? ⟨b', o' + k, none⟩ = some (.slice A3 m cap3) := keep_of_below hB _ _ CK.out.2
        by_cases hcl : c < m
        · have bc : (c : Int) < (m : Int) := by omega
          have bc0 : (0 : Int) ≤ (c : Int) := by omega
          obtain rfl := FK.out.1 (by omega)
          obtain rfl := FY.out.1 (by omega)
          obtain ⟨z, hzz⟩ : ∃ z, z = Z k c := ⟨_, rfl⟩
          obtain ⟨y, hyy⟩ : ∃ y, y = Y k c := ⟨_, rfl⟩
          have cc : wr.cell? ⟨b2, o2 + c, none⟩ = some (.int .i64 z) := by rw [hzz]; exact keep_of_below hB _ _ (FK.out.2 c hcl)
          have dc : wr.cell? ⟨b3, o3 + c, none⟩ = some (.int .i64 y) := by rw [hyy]; exact keep_of_below hB _ _ (FY.out.2 c hcl)
          have HZ : Hid (z = Z k c ∧ y = Y k c) := ⟨hzz, hyy⟩
          clear hzz hyy hg hP hB
          by_cases d1 : z = y
          rotate_left
          · have e1 : (z != y) = true := by simpa using d1
            have HD : Hid (z ≠ y) := d1
            clear d1
            go_wp2_with fail
            go_quiet (fail)
            go_wp2_with fail
            go_ret
            exact ⟨false, rfl, ⟨fun h => (by cases h), fun h => absurd ((h.2 k hz).2 c (by rw [← HM.out.1]; exact hcl)) (by rw [← HZ.out.1, ← HZ.out.2]; exact HD.out)⟩, below_drewN HJ.out.2.2 nq⟩
          have e1 : (z != y) = false := by simpa using d1
          have HD : Hid (z = y) := d1
          clear d1
          go_wp2_with fail
          go_quiet (fail)
          go_wp2_with fail
          go_roundg (m - (c + 1))
          case measure => have := HJ.out.1; omega
          case rel =>
            refine ⟨c + 1, ⟨rfl, by omega, fun j hj => ?_, below_drewN HJ.out.2.2 nq⟩, by go_num⟩
            by_cases e : j = c
            · rw [e, ← HZ.out.1, ← HZ.out.2]; exact HD.out
            · exact HJ.out.2.1 j (by omega)
        · have HE : Hid (c = m) := (by omega : c = m)
          have bc : ¬ (c : Int) < (m : Int) := by omega
          clear hg hP hB
          go_wp2_with fail
          go_roundg (R - (k + 1))
          case measure => have := HK.out.1; omega
          case rel =>
            refine ⟨k + 1, ⟨rfl, by omega, fun r hr => ?_, HJ.out.2.2⟩, by go_num⟩
            by_cases e : r = k
            · rw [e]
              exact ⟨by rw [← HM.out.1, ← HM.out.2], fun j hj => HJ.out.2.1 j (by rw [HE.out, HM.out.1]; exact hj)⟩
            · exact HK.out.2.1 r (by omega)
    · have bk : ¬ (k : Int) < (R : Int) := by omega
      have HE : Hid (k = R) := (by omega : k = R)
      clear hg hP hB
      go_wp2_with fail
      go_ret
      exact ⟨true, rfl, ⟨fun _ => ⟨rfl, fun r hr => HK.out.2.1 r (by rw [HE.out]; exact hr)⟩, fun _ => rfl⟩, HK.out.2.2⟩
end Go.Proofs.Ytpjpgcjlbfgkdaa
