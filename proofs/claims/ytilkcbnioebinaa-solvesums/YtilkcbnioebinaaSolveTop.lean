/-
  What solve.Rank and solve.Times answer.
-/
import Derived.Test.YtilkcbnioebinaaSolveRed
namespace Go.Proofs.Ytilkcbnioebinaa
open Go.RowKit Fm Go.Deep
attribute [local go_sem ↓] Go.wp_at_zero Go.wp_at_succ

theorem mod_rng (R C : Nat) (Z : Nat → Nat → Int) : Rng R C (modZ C Z) := fun i _ j hj => by
  unfold modZ; rw [if_pos hj]; exact ⟨oF_nn _, oF_lt _⟩
theorem mod_mut (R C : Nat) (Z : Nat → Nat → Int) : Mut R C Z (modZ C Z) := Mut.alike fun r _ j hj => by
  unfold modZ; rw [if_pos hj, oF_oF]
theorem RowsAt.U {w : World} {v : Value} {R : Nat} {L : Nat → Nat} {Z : Nat → Nat → Int} (h : RowsAt w v R L Z) : ∀ r, r < R → ∀ j, j < L r → Fm.U (Z r j) := fun r hr j hj => by
  obtain ⟨A, cap, b, o, V, _, _, _, h4⟩ := h
  obtain ⟨_, A', cap', b', o', _, _, _, i⟩ := h4 r hr
  exact (i j hj).2

def TellsRank (w : World) (R C : Nat) (Z : Nat → Nat → Int) (e : Ending) (w' : World) : Prop :=
  ∃ n : Nat, e = .returned (.tuple #[.int .i64 (n : Int), .int .i64 0]) ∧ Rk R C Z n ∧ Below w.heap.size w w'
set_option maxHeartbeats 800000 in
theorem rank_no (w : World) (v : Value) (R : Nat) (L : Nat → Nat) (Z : Nat → Nat → Int) (h : RowsAt w v R L Z) (hs : ¬ SysP R L) :
    Calls Try.prog 11 #[v] w fun e w' => e = .returned (.tuple #[.int .i64 0, .int .i64 1]) ∧ w' = w := by
  have HS : Hid (Calls Try.prog 20 #[v] w (TellsB w (SysP R L))) := sys_any w v R L Z h
  obtain ⟨A, cap, rfl⟩ := h.form
  clear h
  go_enter Try.func11, Try.ntmps11
  go_wp2_with fail
  refine HS.out.mono ?_
  rintro e w' ⟨B, rfl, hB, rfl⟩
  obtain rfl : B = false := by
    cases B with
    | false => rfl
    | true => exact absurd (hB.1 rfl) hs
  clear hB HS
  go_wp2_with fail
  go_ret2
  exact ⟨rfl, rfl⟩
set_option maxHeartbeats 800000 in
theorem rank_yes (w : World) (v : Value) (R C : Nat) (L : Nat → Nat) (Z : Nat → Nat → Int) (h : RowsAt w v R L Z) (hs : SysP R L) (hC : colsF R L = C) :
    Calls Try.prog 11 #[v] w (TellsRank w R C Z) := by
  have HS : Hid (Calls Try.prog 20 #[v] w (TellsB w (SysP R L))) := sys_any w v R L Z h
  have h1 := hs.1
  have h2 := hs.2.1
  have HM : Hid (Calls Try.prog 22 #[v] w fun e w' => e = .returned (.slice (some ⟨w.heap.size, 0, none⟩) R R) ∧ MOuter w w' R C R Z) := modulo_any w v R C L Z h (by omega) (by omega) fun r hr => by rw [← hC]; exact hs.2.2 r hr
  have HCC : Hid (∀ w', Keep w w' → Calls Try.prog 23 #[v] w' fun e w'' => e = .returned (.int .i64 (C : Int)) ∧ w'' = w') := fun w' k => by have := cols_any w' v R L Z (h.keep k); rw [hC] at this; exact this
  rw [hC] at h2
  obtain ⟨A, cap, rfl⟩ := h.form
  clear h
  clear hC
  go_enter Try.func11, Try.ntmps11
  go_wp2_with fail
  refine HS.out.mono ?_
  rintro e w' ⟨B, rfl, hB, rfl⟩
  obtain rfl : B = true := hB.2 hs
  clear hB HS hs
  go_wp2_with fail
  refine HM.out.mono ?_
  rintro e w1 ⟨rfl, hm⟩
  have M : Hid (MOuter w' w1 R C R Z) := hm
  clear HM hm
  go_wp2_with fail
  refine (HCC.out w1 (keep_of_below M.out.since)).mono ?_
  rintro e w2 ⟨rfl, rfl⟩
  clear HCC
  go_wp2_with fail
  refine (reduce_any w2 w'.heap.size w'.heap.size R C (C + 1) C _ (modZ C Z) (mouter_tbl M.out) (mod_rng R C Z) (Nat.le_refl _) (by omega) (by omega) (by omega)).mono ?_
  rintro e w3 ⟨n, l, G, Z', rfl, hred⟩
  have D : Hid (Red w2 w3 w'.heap.size w'.heap.size R C (C + 1) C n l G (modZ C Z) Z') := hred
  clear hred
  go_wp2_with fail
  go_ret2
  exact ⟨n, rfl, D.out.gj.rk ((mod_mut R C Z).trans D.out.mt), M.out.since.trans D.out.below⟩

/-- A new slice of numbers. -/
def NewInts (w : World) (n : Nat) (z : Nat → Int) (k : Int) (e : Ending) (w' : World) : Prop :=
  ∃ g : Nat, e = .returned (.tuple #[.slice (some ⟨g, 0, none⟩) n n, .int .i64 k]) ∧ RowOwn w' g n z ∧ Below w.heap.size w w' ∧ w.heap.size ≤ g
theorem newInts_at {w : World} {g n : Nat} {z : Nat → Int} (h : RowOwn w g n z) (u : ∀ j, j < n → U (z j)) : IntsAt w (.slice (some ⟨g, 0, none⟩) n n) n z :=
  ⟨_, n, g, 0, rfl, Nat.le_refl _, fun _ => rfl, fun c hc => ⟨by rw [Nat.zero_add]; exact World.rowIs.cell h hc, u c hc⟩⟩
set_option maxHeartbeats 800000 in
theorem times_no (w : World) (v x : Value) (R Lx : Nat) (L : Nat → Nat) (Z : Nat → Nat → Int) (X : Nat → Int) (h : RowsAt w v R L Z) (hx : IntsAt w x Lx X) (hs : ¬ (SysP R L ∧ (0 < R → Lx = colsF R L))) :
    Calls Try.prog 18 #[v, x] w fun e w' => e = .returned (.tuple #[.slice none 0 0, .int .i64 1]) ∧ w' = w := by
  have HS : Hid (Calls Try.prog 20 #[v] w (TellsB w (SysP R L))) := sys_any w v R L Z h
  have HCC : Hid (Calls Try.prog 23 #[v] w fun e w' => e = .returned (.int .i64 (colsF R L : Int)) ∧ w' = w) := cols_any w v R L Z h
  obtain ⟨A, cap, rfl⟩ := h.form
  obtain ⟨Ax, capx, rfl⟩ := hx.form
  clear h hx
  by_cases h1 : SysP R L
  · have h2 : 0 < R ∧ Lx ≠ colsF R L := by
      by_cases e : 0 < R
      · exact ⟨e, fun h => hs ⟨h1, fun _ => h⟩⟩
      · exact absurd ⟨h1, fun h => absurd h e⟩ hs
    obtain ⟨h2, h3⟩ := h2
    have hq : ((Lx : Int) == (colsF R L : Int)) = false := by
      have : (Lx : Int) ≠ (colsF R L : Int) := by omega
      simpa using this
    have hp : (0 : Int) < R := by omega
    clear hs h3
    go_enter Try.func18, Try.ntmps18
    go_wp2_with fail
    refine HS.out.mono ?_
    rintro e w' ⟨B, rfl, hB, rfl⟩
    obtain rfl : B = true := hB.2 h1
    clear hB HS h1
    go_wp2_with fail
    refine HCC.out.mono ?_
    rintro e w'' ⟨rfl, rfl⟩
    go_wp2_with fail
    go_ret2
    exact ⟨rfl, rfl⟩
  · go_enter Try.func18, Try.ntmps18
    go_wp2_with fail
    refine HS.out.mono ?_
    rintro e w' ⟨B, rfl, hB, rfl⟩
    obtain rfl : B = false := by
      cases B with
      | false => rfl
      | true => exact absurd (hB.1 rfl) h1
    clear hB HS
    go_wp2_with fail
    go_ret2
    exact ⟨rfl, rfl⟩

/-- So far sums are made: those of k rows, and of row k up to c. -/
def sumsF (C : Nat) (Z : Nat → Nat → Int) (X : Nat → Int) (k c : Nat) : Nat → Int := fun i => if i < k then oF (dotN (Z i) X C) else if i = k then oF (dotN (Z k) X c) else 0
structure Sums (w wr : World) (R C : Nat) (Z : Nat → Nat → Int) (X : Nat → Int) (k c : Nat) : Prop where
  since : Below w.heap.size w wr
  row : RowOwn wr w.heap.size R (sumsF C Z X k c)
theorem sums_start (w : World) (R C : Nat) (Z : Nat → Nat → Int) (X : Nat → Int) : Sums w (w.alloc (.cells (madeCells #[.int .u64 0] R) 36)) R C Z X 0 0 :=
  ⟨(Below.refl _ _).alloc (Nat.le_refl _) _, (World.rowIs_made w _ R 36).congr fun i _ => by
    unfold sumsF
    by_cases e : i = 0
    · subst e; rfl
    · rw [if_neg (by omega), if_neg e]⟩
theorem Sums.step {w wr : World} {R C : Nat} {Z : Nat → Nat → Int} {X : Nat → Int} {k c : Nat} (h : Sums w wr R C Z X k c) : Sums w (wr.setCell ⟨w.heap.size, k, none⟩ (.int .u64 (oF (dotN (Z k) X (c + 1))))).drew R C Z X k (c + 1) :=
  ⟨(h.since.setCell (Nat.le_refl _) _).drew, ((World.rowIs.set h.row k _).congr fun i _ => by
    unfold sumsF
    by_cases e : i = k
    · subst e; simp
    · simp [e]).drew⟩
theorem Sums.next {w wr : World} {R C : Nat} {Z : Nat → Nat → Int} {X : Nat → Int} {k : Nat} (h : Sums w wr R C Z X k C) : Sums w wr R C Z X (k + 1) 0 :=
  ⟨h.since, World.rowIs.congr h.row fun i _ => by
    unfold sumsF
    by_cases e : i = k
    · subst e; simp
    · by_cases e1 : i < k
      · simp [e1, show i < k + 1 by omega]
      · by_cases e2 : i = k + 1
        · subst e2; simp [show ¬ k + 1 < k by omega]; rfl
        · simp [e, e1, e2, show ¬ i < k + 1 by omega]⟩
theorem Sums.done {w wr : World} {R C : Nat} {Z : Nat → Nat → Int} {X : Nat → Int} (h : Sums w wr R C Z X R 0) : RowOwn wr w.heap.size R (fun i => oF (dotN (Z i) X C)) :=
  World.rowIs.congr h.row fun i hi => by unfold sumsF; rw [if_pos hi]


end Go.Proofs.Ytilkcbnioebinaa
