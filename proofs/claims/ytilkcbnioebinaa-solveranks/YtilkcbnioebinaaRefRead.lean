/-
  What the reference's Small, Even, Same, first and inverse answer: they only read.
-/
import Derived.Test.YtilkcbnioebinaaSolveMem
import Derived.Deep.QuietTactic
import Derived.BigQuiet
import Derived.WalkSmall
namespace Go.Proofs.Ytilkcbnioebinaa
open Go.RowKit Fm Go.Deep

/-- A bool that tells whether something holds; nothing that was there has turned. -/
def TellsD (w : World) (P : Prop) (e : Ending) (w' : World) : Prop := ∃ B : Bool, e = .returned (.bool B) ∧ (B = true ↔ P) ∧ Below w.heap.size w w'

def SmallP (R : Nat) (L : Nat → Nat) (m : Nat) : Prop := R ≤ m ∧ ∀ r, r < R → L r ≤ m
set_option maxHeartbeats 800000 in
theorem small_any (w : World) (v : Value) (R m : Nat) (L : Nat → Nat) (Z : Nat → Nat → Int) (h : RowsAt w v R L Z) (hm : m ≤ 100) :
    Calls Try.prog 9 #[v, .int .i64 (m : Int)] w (TellsB w (SmallP R L m)) := by
  obtain ⟨A, cap, b, o, V, rfl, h2, h3, h4⟩ := h
  have cell : Hid (∀ r, r < R → A = some ⟨b, o, none⟩ ∧ ∃ A' cap', V r = .slice A' (L r) cap' ∧ w.cell? ⟨b, o + r, none⟩ = some (.slice A' (L r) cap')) := fun r hr => RowsAt.cell h3 h4 hr
  clear h3 h4
  by_cases hR : m < R
  · have hR' : (m : Int) < (R : Int) := by omega
    go_enter Try.func9, Try.ntmps9
    go_wp2_with fail
    go_ret
    exact ⟨false, rfl, ⟨fun h => (by cases h), fun h => by have := h.1; omega⟩, rfl⟩
  go_enter Try.func9, Try.ntmps9
  go_wp2_with fail
  go_loop [5] (fun i => ∃ k : Nat, (k ≤ R ∧ ∀ r, r < k → L r ≤ m) ∧ i = .int .i64 (k : Int)) (fun i => R - (intOf i).toNat)
  case atStart => exact ⟨0, ⟨by omega, fun r hr => by omega⟩, rfl⟩
  case round =>
    obtain ⟨k, hk, rfl⟩ := hrel
    have HK : Hid (k ≤ R ∧ ∀ r, r < k → L r ≤ m) := hk
    have hkR := hk.1
    clear hk
    by_cases hz : k < R
    · obtain ⟨rfl, A', cap', _, ck⟩ := cell.out k hz
      by_cases he : L k ≤ m
      · have HE : Hid (L k ≤ m) := he
        have hq : ¬ (m : Int) < (L k : Int) := by omega
        clear he
        go_wp2_with fail
        go_round
        case rel =>
          refine ⟨k + 1, ⟨by omega, fun r hr => ?_⟩, by go_num⟩
          by_cases e : r = k
          · rw [e]; exact HE.out
          · exact HK.out.2 r (by omega)
        case measure => simp [intOf]; omega
      · have hq : (m : Int) < (L k : Int) := by omega
        go_wp2_with fail
        go_ret
        exact ⟨false, rfl, ⟨fun h => (by cases h), fun h => absurd (h.2 k hz) he⟩, rfl⟩
    · go_wp2_with fail
      go_ret
      exact ⟨true, rfl, ⟨fun _ => ⟨by omega, fun r hr => HK.out.2 r (by omega)⟩, fun _ => rfl⟩, rfl⟩
theorem sys_of {R : Nat} {L : Nat → Nat} (h1 : R ≤ 32) (h : ∀ r, r < R → L r = L 0 ∧ L r ≤ 32) : SysP R L := by
  refine ⟨h1, ?_, fun r hr => ?_⟩
  · unfold colsF
    split
    · omega
    · exact (h 0 (by omega)).2
  · rw [colsF_pos L (by omega)]; exact (h r hr).1
theorem of_sys {R : Nat} {L : Nat → Nat} (h : SysP R L) : ∀ r, r < R → L r = L 0 ∧ L r ≤ 32 := fun r hr => by
  have e := h.2.2 r hr
  have c := h.2.1
  rw [colsF_pos L (by omega)] at e c
  omega
set_option maxHeartbeats 1600000 in
theorem even_any (w : World) (v : Value) (R : Nat) (L : Nat → Nat) (Z : Nat → Nat → Int) (h : RowsAt w v R L Z) (hR : R ≤ 100) :
    Calls Try.prog 12 #[v] w (TellsD w (SysP R L)) := by
  obtain ⟨A, cap, b, o, V, rfl, h2, h3, h4⟩ := h
  have cell : Hid (∀ r, r < R → A = some ⟨b, o, none⟩ ∧ ∃ A' cap', V r = .slice A' (L r) cap' ∧ w.cell? ⟨b, o + r, none⟩ = some (.slice A' (L r) cap')) := fun r hr => RowsAt.cell h3 h4 hr
  clear h3 h4
  go_enter Try.func12, Try.ntmps12
  go_wp2_with fail
  go_loopg [3] R (fun g i wr => ∃ k : Nat, (g = R - k ∧ k ≤ R ∧ (∀ r, r < k → L r = L 0 ∧ L r ≤ 32) ∧ Below w.heap.size w wr) ∧ i = .int .i64 (k : Int))
  case atStart => exact ⟨0, ⟨rfl, by omega, fun r hr => by omega, Below.refl _ _⟩, rfl⟩
  case round =>
    obtain ⟨k, ⟨hg, hkR, hk, hB⟩, rfl⟩ := hrel
    have HK : Hid (gk = R - k ∧ (∀ r, r < k → L r = L 0 ∧ L r ≤ 32) ∧ Below w.heap.size w wr) := ⟨hg, hk, hB⟩
    clear hg hk
    by_cases hz : k < R
    · obtain ⟨rfl, A', cap', _, ck⟩ := cell.out k hz
      obtain ⟨_, A0, cap0, _, c0⟩ := cell.out 0 (by omega)
      have d1 := (hB.cell (World.block_lt_of_cell? _ _ ck)).trans ck
      have d0 := (hB.cell (World.block_lt_of_cell? _ _ c0)).trans c0
      rw [Nat.add_zero] at d0
      have b1 : (k : Int) < (R : Int) := by omega
      have b0 : (0 : Int) < (R : Int) := by omega
      have b0' : 0 < R := by omega
      clear hB ck c0
      by_cases he : L k = L 0
      · have HE : Hid (L k = L 0) := he
        have hq : ((L k : Int) != (L 0 : Int)) = false := by rw [he]; simp
        by_cases hl : L k ≤ 32
        · have hl' : ¬ (32 : Int) < (L k : Int) := by omega
          have hd : decide ((32 : Int) < (L k : Int)) = false := by simp; omega
          clear he
          go_wp2_with fail
          go_quiet (fail)
          go_wp2_with fail
          go_roundg (R - (k + 1))
          case measure => have := HK.out.1; omega
          case rel =>
            refine ⟨k + 1, ⟨rfl, by omega, fun r hr => ?_, below_drewN HK.out.2.2 _⟩, by go_num⟩
            by_cases e : r = k
            · rw [e]; exact ⟨HE.out, hl⟩
            · exact HK.out.2.1 r (by omega)
        · have hl' : (32 : Int) < (L k : Int) := by omega
          have hd : decide ((32 : Int) < (L k : Int)) = true := by simp; omega
          clear he
          go_wp2_with fail
          go_quiet (fail)
          go_wp2_with fail
          go_ret
          exact ⟨false, rfl, ⟨fun h => (by cases h), fun h => absurd (of_sys h k hz).2 hl⟩, below_drewN HK.out.2.2 _⟩
      · have HE : Hid (L k ≠ L 0) := he
        have hq : ((L k : Int) != (L 0 : Int)) = true := by
          have : (L k : Int) ≠ (L 0 : Int) := by omega
          simpa using this
        clear he
        go_wp2_with fail
        go_quiet (fail)
        go_wp2_with fail
        go_ret
        exact ⟨false, rfl, ⟨fun h => (by cases h), fun h => absurd (of_sys h k hz).1 HE.out⟩, below_drewN HK.out.2.2 _⟩
    · by_cases hl : R ≤ 32
      · have hd : decide ((R : Int) ≤ 32) = true := by simp; omega
        clear hB
        go_wp2_with fail
        go_ret
        exact ⟨true, by simp, ⟨fun _ => sys_of hl fun r hr => HK.out.2.1 r (by omega), fun _ => rfl⟩, HK.out.2.2⟩
      · have hd : decide ((R : Int) ≤ 32) = false := by simp; omega
        clear hB
        go_wp2_with fail
        go_ret
        exact ⟨false, by simp, ⟨fun h => (by cases h), fun h => absurd h.1 hl⟩, HK.out.2.2⟩
def SameP (M N : Nat) (y z : Nat → Int) : Prop := M = N ∧ ∀ j, j < M → oF (y j) = oF (z j)
set_option maxHeartbeats 1600000 in
theorem same_any (w : World) (u v : Value) (M N : Nat) (y z : Nat → Int) (h : IntsAt w u M y) (k : IntsAt w v N z) (hM : M ≤ 100) :
    Calls Try.prog 16 #[u, v] w (TellsD w (SameP M N y z)) := by
  obtain ⟨A, cap, b, o, rfl, h2, h3, h4⟩ := h
  obtain ⟨A', cap', b', o', rfl, k2, k3, k4⟩ := k
  by_cases hMN : M = N
  · subst hMN
    have cell : Hid (∀ j, j < M → A = some ⟨b, o, none⟩ ∧ A' = some ⟨b', o', none⟩ ∧ w.cell? ⟨b, o + j, none⟩ = some (.int .u64 (y j)) ∧ w.cell? ⟨b', o' + j, none⟩ = some (.int .u64 (z j)) ∧ U (y j) ∧ U (z j)) := fun j hj =>
      ⟨h3 (by omega), k3 (by omega), (h4 j hj).1, (k4 j hj).1, (h4 j hj).2, (k4 j hj).2⟩
    clear h3 h4 k3 k4
    go_enter Try.func16, Try.ntmps16
    go_wp2_with fail
    go_loopg [5] M (fun g i wr => ∃ k : Nat, (g = M - k ∧ k ≤ M ∧ (∀ r, r < k → oF (y r) = oF (z r)) ∧ Below w.heap.size w wr) ∧ i = .int .i64 (k : Int))
    case atStart => exact ⟨0, ⟨rfl, by omega, fun r hr => by omega, Below.refl _ _⟩, rfl⟩
    case round =>
      obtain ⟨k, ⟨hg, hkR, hk, hB⟩, rfl⟩ := hrel
      have HK : Hid (gk = M - k ∧ (∀ r, r < k → oF (y r) = oF (z r)) ∧ Below w.heap.size w wr) := ⟨hg, hk, hB⟩
      clear hg hk
      by_cases hz : k < M
      · obtain ⟨rfl, rfl, c1, c2, u1, u2⟩ := cell.out k hz
        have d1 := (hB.cell (World.block_lt_of_cell? _ _ c1)).trans c1
        have d2 := (hB.cell (World.block_lt_of_cell? _ _ c2)).trans c2
        have b1 : (k : Int) < (M : Int) := by omega
        clear hB c1 c2
        by_cases he : oF (y k) = oF (z k)
        · have HE : Hid (oF (y k) = oF (z k)) := he
          have hq : (oF (y k) == oF (z k)) = true := by rw [he]; exact beq_self_eq_true _
          clear he
          go_wp2_with fail
          go_quiet ((first | (go_at_call 26; exact Calls.quiet_of_same (rof_any (y k) _ u1)) | (go_at_call 26; exact Calls.quiet_of_same (rof_any (z k) _ u2))))
          go_wp2_with fail
          go_roundg (M - (k + 1))
          case measure => have := HK.out.1; omega
          case rel =>
            refine ⟨k + 1, ⟨rfl, by omega, fun r hr => ?_, below_drewN HK.out.2.2 _⟩, by go_num⟩
            by_cases e : r = k
            · rw [e]; exact HE.out
            · exact HK.out.2.1 r (by omega)
        · have HE : Hid (oF (y k) ≠ oF (z k)) := he
          have hq : (oF (y k) == oF (z k)) = false := by simpa using he
          clear he
          go_wp2_with fail
          go_quiet ((first | (go_at_call 26; exact Calls.quiet_of_same (rof_any (y k) _ u1)) | (go_at_call 26; exact Calls.quiet_of_same (rof_any (z k) _ u2))))
          go_wp2_with fail
          go_ret
          exact ⟨false, rfl, ⟨fun h => (by cases h), fun h => absurd (h.2 k hz) HE.out⟩, below_drewN HK.out.2.2 _⟩
      · clear hB
        go_wp2_with fail
        go_ret
        exact ⟨true, rfl, ⟨fun _ => ⟨rfl, fun r hr => HK.out.2.1 r (by omega)⟩, fun _ => rfl⟩, HK.out.2.2⟩
  · have hq : ((M : Int) == (N : Int)) = false := by
      have : (M : Int) ≠ (N : Int) := by omega
      simpa using this
    clear h3 h4 k3 k4
    go_enter Try.func16, Try.ntmps16
    go_wp2_with fail
    go_ret
    exact ⟨false, rfl, ⟨fun h => (by cases h), fun h => absurd h.1 hMN⟩, Below.refl _ _⟩
/-- Where a row leads; its length, if it is nought. -/
def FirstF (C : Nat) (z : Nat → Int) (k : Nat) : Prop := (k < C ∧ Ld C z k) ∨ (k = C ∧ ∀ j, j < C → oF (z j) = 0)
def TellsFirst (w : World) (C : Nat) (z : Nat → Int) (e : Ending) (w' : World) : Prop := ∃ k : Nat, e = .returned (.int .i64 (k : Int)) ∧ FirstF C z k ∧ w' = w
set_option maxHeartbeats 800000 in
theorem first_any (w : World) (v : Value) (C : Nat) (z : Nat → Int) (h : IntsAt w v C z) (hC : C ≤ 100) :
    Calls Try.prog 34 #[v] w (TellsFirst w C z) := by
  obtain ⟨A, cap, b, o, rfl, h2, h3, h4⟩ := h
  have cell : Hid (∀ j, j < C → A = some ⟨b, o, none⟩ ∧ w.cell? ⟨b, o + j, none⟩ = some (.int .u64 (z j)) ∧ U (z j)) := fun j hj =>
    ⟨h3 (by omega), (h4 j hj).1, (h4 j hj).2⟩
  clear h3 h4
  go_enter Try.func34, Try.ntmps34
  go_wp2_with fail
  go_loop [3] (fun i => ∃ k : Nat, (k ≤ C ∧ ∀ r, r < k → oF (z r) = 0) ∧ i = .int .i64 (k : Int)) (fun i => C - (intOf i).toNat)
  case atStart => exact ⟨0, ⟨by omega, fun r hr => by omega⟩, rfl⟩
  case round =>
    obtain ⟨k, hk, rfl⟩ := hrel
    have HK : Hid (k ≤ C ∧ ∀ r, r < k → oF (z r) = 0) := hk
    have hkR := hk.1
    clear hk
    by_cases hz : k < C
    · obtain ⟨rfl, c1, u1⟩ := cell.out k hz
      have b1 : (k : Int) < (C : Int) := by omega
      by_cases he : oF (z k) = 0
      · have HE : Hid (oF (z k) = 0) := he
        have hq : (oF (z k) == 0) = true := by rw [he]; rfl
        clear he
        go_wp2_with fail
        refine (rof_any _ _ u1).mono ?_
        rintro e w' ⟨rfl, rfl⟩
        go_wp2_with fail
        go_round
        case rel =>
          refine ⟨k + 1, ⟨by omega, fun r hr => ?_⟩, by go_num⟩
          by_cases e : r = k
          · rw [e]; exact HE.out
          · exact HK.out.2 r (by omega)
        case measure => simp [intOf]; omega
      · have HE : Hid (oF (z k) ≠ 0) := he
        have hq : (oF (z k) == 0) = false := by simpa using he
        clear he
        go_wp2_with fail
        refine (rof_any _ _ u1).mono ?_
        rintro e w' ⟨rfl, rfl⟩
        go_wp2_with fail
        go_ret
        exact ⟨k, rfl, .inl ⟨hz, hz, HE.out, HK.out.2⟩, rfl⟩
    · go_wp2_with fail
      go_ret
      exact ⟨C, rfl, .inr ⟨rfl, fun j hj => HK.out.2 j (by omega)⟩, rfl⟩
set_option maxHeartbeats 400000 in
theorem inverse_any (a : Int) (w : World) (h : U a) : Calls Try.prog 38 #[.int .u64 a] w fun e w' => e = .returned (.int .u64 (powF a 2305843009213693949)) ∧ w' = w := by
  go_enter Try.func38, Try.ntmps38
  go_wp2_with fail
  refine (rpow_any 2305843009213693949 _ _ _ (by omega) h ⟨by omega, by omega⟩).mono ?_
  rintro e w' ⟨rfl, rfl⟩
  go_wp2_with fail
  go_ret
  exact ⟨rfl, rfl⟩

end Go.Proofs.Ytilkcbnioebinaa
