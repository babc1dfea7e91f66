/-
  What solve.Times answers for a system.
-/
import Derived.Test.YtilkcbnioebinaaSolveTop
namespace Go.Proofs.Ytilkcbnioebinaa
open Go.RowKit Fm Go.Deep
attribute [local go_sem ↓] Go.wp_at_zero Go.wp_at_succ

set_option maxHeartbeats 3200000 in
theorem times_yes (w : World) (v x : Value) (R C Lx : Nat) (L : Nat → Nat) (Z : Nat → Nat → Int) (X : Nat → Int) (h : RowsAt w v R L Z) (hx : IntsAt w x Lx X) (hs : SysP R L) (hC : colsF R L = C) (hX : 0 < R → Lx = C) :
    Calls Try.prog 18 #[v, x] w (NewInts w R (fun i => oF (dotN (Z i) X C)) 0) := by
  have HS : Hid (Calls Try.prog 20 #[v] w (TellsB w (SysP R L))) := sys_any w v R L Z h
  have HCC : Hid (Calls Try.prog 23 #[v] w fun e w' => e = .returned (.int .i64 (colsF R L : Int)) ∧ w' = w) := cols_any w v R L Z h
  rw [hC] at HCC
  have hR : R ≤ 32 := hs.1
  have hC' : C ≤ 32 := by have := hs.2.1; omega
  obtain ⟨A, cap, b, o, V, rfl, h2, h3, h4⟩ := h
  obtain ⟨Ax, capx, bx, ox, rfl, _, x3, x4⟩ := hx
  have cell : Hid (∀ r, r < R → A = some ⟨b, o, none⟩ ∧ b < w.heap.size ∧ ∃ A' cap' b' o', w.cell? ⟨b, o + r, none⟩ = some (.slice A' C cap') ∧ ∀ c, c < C → A' = some ⟨b', o', none⟩ ∧ b' < w.heap.size ∧ w.cell? ⟨b', o' + c, none⟩ = some (.int .u64 (Z r c)) ∧ U (Z r c)) := fun r hr => by
    obtain ⟨c1, A', cap', b', o', e, _, e2, i⟩ := h4 r hr
    rw [hs.2.2 r hr, hC] at e e2 i
    exact ⟨h3 (by omega), World.block_lt_of_cell? _ _ c1, A', cap', b', o', by rw [c1, e], fun c hc => ⟨e2 (by omega), World.block_lt_of_cell? _ _ (i c hc).1, (i c hc).1, (i c hc).2⟩⟩
  have xcell : Hid (0 < R → ∀ c, c < C → Ax = some ⟨bx, ox, none⟩ ∧ bx < w.heap.size ∧ w.cell? ⟨bx, ox + c, none⟩ = some (.int .u64 (X c)) ∧ U (X c)) := fun hr c hc => by
    have := hX hr
    exact ⟨x3 (by omega), World.block_lt_of_cell? _ _ (x4 c (by omega)).1, (x4 c (by omega)).1, (x4 c (by omega)).2⟩
  have HX : Hid (0 < R → Lx = C) := hX
  clear h3 h4 x3 x4 hC hX
  have hmk30 := run_make_row' (P := Try.prog) 30 36 (.int .u64 0) 8 Try.underlying30 info36 rfl .i64 .i64 R (by omega) (by omega)
  by_cases hp : R = 0
  · have HP : Hid (R = 0) := hp
    have hp' : ¬ (0 : Int) < (R : Int) := by omega
    clear hp
    go_enter Try.func18, Try.ntmps18
    go_wp2_with fail
    refine HS.out.mono ?_
    rintro e w' ⟨B, rfl, hB, rfl⟩
    obtain rfl : B = true := hB.2 hs
    clear hB HS hs
    go_wp2_with fail
    clear hmk30 HCC
    go_loopg [31] 0 (fun g i wr => i = .int .i64 0 ∧ Sums w' wr R C Z X 0 0)
    case atStart => exact ⟨rfl, sums_start w' R C Z X⟩
    case round =>
      obtain ⟨rfl, hS⟩ := hrel
      have HS : Hid (Sums w' wr R C Z X 0 0) := hS
      clear hS
      go_wp2_with fail
      go_ret2
      have s := HS.out
      have s' : Sums w' wr R C Z X R 0 := by rw [HP.out] at s ⊢; exact s
      exact ⟨_, rfl, s'.done, s.since, Nat.le_refl _⟩
  obtain rfl : C = Lx := (HX.out (by omega)).symm
  have hp0 : (0 : Int) < (R : Int) := by omega
  have hp : 0 < R := by omega
  go_enter Try.func18, Try.ntmps18
  go_wp2_with fail
  refine HS.out.mono ?_
  rintro e w' ⟨B, rfl, hB, rfl⟩
  obtain rfl : B = true := hB.2 hs
  clear hB HS hs
  go_wp2_with fail
  refine HCC.out.mono ?_
  rintro e w'' ⟨rfl, rfl⟩
  go_wp2_with fail
  clear hmk30 HCC hp0
  go_loopg [31] R (fun g i wr => ∃ k : Nat, (g = R - k ∧ k ≤ R ∧ Sums w'' wr R C Z X k 0) ∧ i = .int .i64 (k : Int))
  case atStart => exact ⟨0, ⟨rfl, by omega, sums_start w'' R C Z X⟩, rfl⟩
  case round =>
    obtain ⟨k, ⟨hg, hk, hO⟩, rfl⟩ := hrel
    have HK : Hid (gk = R - k ∧ Sums w'' wr R C Z X k 0) := ⟨hg, hO⟩
    by_cases hz : k < R
    · obtain ⟨rfl, hb, A', cap', b', o', c1, c2⟩ := cell.out k hz
      have CC : Hid (∀ c, c < C → A' = some ⟨b', o', none⟩ ∧ b' < w''.heap.size ∧ w''.cell? ⟨b', o' + c, none⟩ = some (.int .u64 (Z k c)) ∧ U (Z k c)) := c2
      have d1 : wr.cell? ⟨b, o + k, none⟩ = some (.slice A' C cap') := by rw [hO.since.cell (p := ⟨b, o + k, none⟩) hb]; exact c1
      clear hg hO c1 c2
      go_wp2_with fail
      clear d1
      go_loopg [38] C (fun g i wi => ∃ c : Nat, (g = C - c ∧ c ≤ C ∧ Sums w'' wi R C Z X k c) ∧ i = .int .i64 (c : Int))
      case atStart => exact ⟨0, ⟨rfl, by omega, HK.out.2⟩, rfl⟩
      case round =>
        obtain ⟨c, ⟨hg, hc, hI⟩, rfl⟩ := hrel
        have HJ : Hid (gk = C - c ∧ Sums w'' wr R C Z X k c) := ⟨hg, hI⟩
        by_cases hlt : c < C
        · obtain ⟨rfl, hb', e1, e2⟩ := CC.out c hlt
          obtain ⟨rfl, hbx, x1, x2⟩ := xcell.out hp c hlt
          have d1 : wr.cell? ⟨b', o' + c, none⟩ = some (.int .u64 (Z k c)) := by rw [hI.since.cell (p := ⟨b', o' + c, none⟩) hb']; exact e1
          have d2 : wr.cell? ⟨bx, ox + c, none⟩ = some (.int .u64 (X c)) := by rw [hI.since.cell (p := ⟨bx, ox + c, none⟩) hbx]; exact x1
          have d3 : wr.cell? ⟨w''.heap.size, k, none⟩ = some (.int .u64 (oF (dotN (Z k) X c))) := by have := World.rowIs.cell hI.row (i := k) hz; simpa [sumsF] using this
          have d4 : wr.frozen? ⟨w''.heap.size, k, none⟩ = false := World.rowIs.frozen hI.row k
          have b1 : (c : Int) < (C : Int) := by omega
          have b2 : (k : Int) < (R : Int) := by omega
          have DS : Hid (addF (oF (dotN (Z k) X c)) (mulF (Z k c) (X c)) = oF (dotN (Z k) X (c + 1))) := dot_step (Z k) X c
          have ST : Hid (Sums w'' (wr.setCell ⟨w''.heap.size, k, none⟩ (.int .u64 (addF (oF (dotN (Z k) X c)) (mulF (Z k c) (X c))))).drew R C Z X k (c + 1)) := by rw [DS.out]; exact hI.step
          have uS : U (oF (dotN (Z k) X c)) := oF_U _
          obtain ⟨S, hS⟩ : ∃ S, S = oF (dotN (Z k) X c) := ⟨_, rfl⟩
          rw [← hS] at d3 ST uS
          clear hg hI e1 x1 DS hS
          go_wp2_with fail
          go_region_with (first | (go_at_call 29; refine (mul_any _ _ _ e2 x2).mono ?_; rintro e w1 ⟨rfl, rfl⟩) | (go_at_call 28; refine (add_any _ _ _ uS (mulF_U _ _)).mono ?_; rintro e w1 ⟨rfl, rfl⟩))
          all_goals go_wp2_with fail
          all_goals go_roundg (C - (c + 1))
          all_goals first | (have := HJ.out.1; omega) | exact ⟨c + 1, ⟨rfl, by omega, ST.out⟩, by go_num⟩
        · have e : c = C := by omega
          have HE : Hid (c = C) := e
          clear e hg hI
          go_wp2_with fail
          go_roundg (R - (k + 1))
          case measure => have := HK.out.1; omega
          case rel => exact ⟨k + 1, ⟨rfl, by omega, Sums.next (by have := HJ.out.2; rw [HE.out] at this; exact this)⟩, by go_num⟩
    · have e : k = R := by omega
      have HE : Hid (k = R) := e
      clear e hg hO
      go_wp2_with fail
      go_ret2
      have s := HK.out.2
      rw [HE.out] at s
      exact ⟨_, rfl, s.done, s.since, Nat.le_refl _⟩

end Go.Proofs.Ytilkcbnioebinaa
