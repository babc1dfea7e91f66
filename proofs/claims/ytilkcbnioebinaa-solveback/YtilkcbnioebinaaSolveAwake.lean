/-
  The fixed answer of layer 3's statements.
-/
import Derived.Test.YtilkcbnioebinaaSolveSolve
namespace Go.Proofs.Ytilkcbnioebinaa
open Go.RowKit Fm Go.Deep

theorem wide_mut (R C : Nat) (Z : Nat → Nat → Int) (T : Nat → Int) : Mut R C Z (wideZ C Z T) := Mut.alike fun r _ j hj => by unfold wideZ; rw [if_pos hj]
theorem solve_rk {R C n : Nat} {l : Nat → Nat} {Z Z' : Nat → Nat → Int} {T : Nat → Int} (h : Gj R C n l Z') (m : Mut R (C + 1) (wideZ C Z T) Z') : Rk R C Z n :=
  h.rk ((wide_mut R C Z T).trans (m.less (Nat.le_succ C)))

/-- Two rows of two numbers. -/
def lit2 (p q r s : Int) : Nat → Nat → Int := fun i j => if i = 0 then (if j = 0 then p else q) else (if j = 0 then r else s)
def one2 (p q : Int) : Nat → Int := fun j => if j = 0 then p else q
theorem two_cases {i : Nat} (h : i < 2) : i = 0 ∨ i = 1 := by omega
theorem rk_two : Rk 2 2 (lit2 1 1 1 2305843009213693950) 2 := by
  refine Rk.of (B := lit2 1 1 0 2305843009213693949) (l := fun i => i) (fun i hi => ?_) (fun i k _ _ e => e) (fun i hi => ?_) (fun i hi => ?_)
  · rcases two_cases hi with rfl | rfl
    · exact ⟨by omega, by decide, fun j hj => by omega⟩
    · refine ⟨by omega, by decide, fun j hj => ?_⟩
      obtain rfl : j = 0 := by omega
      decide
  · rcases two_cases hi with rfl | rfl
    · exact (Sp.row (Z := lit2 1 1 1 2305843009213693950) (r := 0) (by omega)).congr fun j _ => rfl
    · refine (Sp.lin (-1) (Sp.row (Z := lit2 1 1 1 2305843009213693950) (r := 1) (by omega)) (Sp.row (Z := lit2 1 1 1 2305843009213693950) (r := 0) (by omega))).congr fun j hj => ?_
      rcases two_cases hj with rfl | rfl <;> decide
  · rcases two_cases hi with rfl | rfl
    · exact (Sp.row (Z := lit2 1 1 0 2305843009213693949) (r := 0) (by omega)).congr fun j _ => rfl
    · refine (Sp.lin 1 (Sp.row (Z := lit2 1 1 0 2305843009213693949) (r := 1) (by omega)) (Sp.row (Z := lit2 1 1 0 2305843009213693949) (r := 0) (by omega))).congr fun j hj => ?_
      rcases two_cases hj with rfl | rfl <;> decide
theorem rk_one : Rk 2 2 (lit2 1 1 2 2) 1 := by
  refine Rk.of (B := lit2 1 1 2 2) (l := fun i => i) (fun i hi => ?_) (fun i k _ _ e => e) (fun i hi => Sp.row (by omega)) (fun i hi => ?_)
  · obtain rfl : i = 0 := by omega
    exact ⟨by omega, by decide, fun j hj => by omega⟩
  · rcases two_cases hi with rfl | rfl
    · exact Sp.row (by omega)
    · refine ((Sp.row (Z := lit2 1 1 2 2) (r := 0) (by omega)).smul 2).congr fun j hj => ?_
      rcases two_cases hj with rfl | rfl <;> decide
theorem dot_three (r : Nat) (hr : r < 2) : oF (dotN (wideZ 2 (lit2 1 1 1 2305843009213693950) (one2 5 1) r) (one2 3 2) 2) = oF (wideZ 2 (lit2 1 1 1 2305843009213693950) (one2 5 1) r 2) := by
  rcases two_cases hr with rfl | rfl <;> decide
def ThreeTwo (w : World) (e : Ending) (w' : World) : Prop :=
  ∃ g : Nat, e = .returned (.tuple #[.slice (some ⟨g, 0, none⟩) 2 2, .int .i64 0]) ∧ w'.cell? ⟨g, 0, none⟩ = some (.int .u64 3) ∧ w'.cell? ⟨g, 1, none⟩ = some (.int .u64 2) ∧ Below w.heap.size w w'
theorem three_two {w w' : World} {e : Ending} (h : TellsSolve w 2 2 (lit2 1 1 1 2305843009213693950) (one2 5 1) e w') : ThreeTwo w e w' := by
  rcases h with ⟨n, k, l, Z', rfl, h1, h2, h3, h4, h5, h6, h7⟩ | ⟨n, l, Z', rfl, h1, h2, h3, h4, h5, h6⟩ | ⟨l, Z', g, rfl, h1, h2, h3, h4, h5, h6, h7⟩
  · have := (h1.back h2 dot_three).1 k h4 h5
    rw [oF_id (h3 k h5 2 (by omega)).1 (h3 k h5 2 (by omega)).2] at this
    exact absurd this h6
  · have := (solve_rk h1 h2).unique rk_two
    omega
  · have b := (h1.back h2 dot_three).2 rfl
    have v0 := b 0 (by omega)
    have v1 := b 1 (by omega)
    rw [oF_id (h3 0 (by omega) 2 (by omega)).1 (h3 0 (by omega) 2 (by omega)).2] at v0
    rw [oF_id (h3 1 (by omega) 2 (by omega)).1 (h3 1 (by omega) 2 (by omega)).2] at v1
    refine ⟨g, rfl, ?_, ?_, h6⟩
    · exact (World.rowIs.cell h5 (i := 0) (by omega)).trans (congrArg (fun x => some (Value.int IntKind.u64 x)) v0)
    · exact (World.rowIs.cell h5 (i := 1) (by omega)).trans (congrArg (fun x => some (Value.int IntKind.u64 x)) v1)
theorem sys_two : SysP 2 (fun _ => 2) := ⟨by omega, by decide, fun _ _ => rfl⟩
theorem ints_two (w : World) (b : Nat) (p q : Int) (h0 : w.cell? ⟨b, 0, none⟩ = some (.int .u64 p)) (h1 : w.cell? ⟨b, 1, none⟩ = some (.int .u64 q)) (up : U p) (uq : U q) : IntsAt w (.slice (some ⟨b, 0, none⟩) 2 2) 2 (one2 p q) :=
  ⟨_, 2, b, 0, rfl, Nat.le_refl _, fun _ => rfl, fun c hc => by
    rcases two_cases hc with rfl | rfl
    · exact ⟨h0, up⟩
    · exact ⟨h1, uq⟩⟩
theorem rows_two (w : World) (b b0 b1 : Nat) (p q r s : Int) (h0 : w.cell? ⟨b, 0, none⟩ = some (.slice (some ⟨b0, 0, none⟩) 2 2)) (h1 : w.cell? ⟨b, 1, none⟩ = some (.slice (some ⟨b1, 0, none⟩) 2 2))
    (k0 : IntsAt w (.slice (some ⟨b0, 0, none⟩) 2 2) 2 (one2 p q)) (k1 : IntsAt w (.slice (some ⟨b1, 0, none⟩) 2 2) 2 (one2 r s)) : RowsAt w (.slice (some ⟨b, 0, none⟩) 2 2) 2 (fun _ => 2) (lit2 p q r s) :=
  ⟨_, 2, b, 0, fun i => if i = 0 then .slice (some ⟨b0, 0, none⟩) 2 2 else .slice (some ⟨b1, 0, none⟩) 2 2, rfl, Nat.le_refl _, fun _ => rfl, fun c hc => by
    rcases two_cases hc with rfl | rfl
    · exact ⟨h0, k0⟩
    · exact ⟨h1, k1⟩⟩

set_option maxHeartbeats 1600000 in
theorem awake_any (w : World) : Calls Try.prog 10 #[] w fun e w' => e = .returned (.bool true) ∧ Below w.heap.size w w' := by
  go_enter Try.func10, Try.ntmps10
  go_wp2_with fail
  refine ((solve_yes _ _ _ 2 2 (fun _ => 2) (lit2 1 1 1 2305843009213693950) (one2 5 1) (rows_two _ _ w.heap.size (w.heap.size + 1) 1 1 1 2305843009213693950 (by go_simp) (by go_simp) (ints_two _ _ _ _ (by go_simp) (by go_simp) ⟨by omega, by omega⟩ ⟨by omega, by omega⟩) (ints_two _ _ _ _ (by go_simp) (by go_simp) ⟨by omega, by omega⟩ ⟨by omega, by omega⟩)) (ints_two _ _ _ _ (by go_simp) (by go_simp) ⟨by omega, by omega⟩ ⟨by omega, by omega⟩) sys_two rfl).mono fun _ _ h => three_two h).mono ?_
  rintro e w1 ⟨g, rfl, c0, c1, hb⟩
  have B1 : Hid (Below w.heap.size w w1) := by
    refine Below.trans ?_ (hb.mono (by simp; omega))
    exact ((((Below.refl _ _).alloc (Nat.le_refl _) _).alloc (by simp) _).alloc (by simp; omega) _).alloc (by simp; omega) _
  clear hb
  have C : Hid (w1.cell? ⟨g, 0, none⟩ = some (.int .u64 3) ∧ w1.cell? ⟨g, 1, none⟩ = some (.int .u64 2)) := ⟨c0, c1⟩
  clear c0 c1
  go_wp2_with fail
  refine (rank_yes _ _ 2 2 (fun _ => 2) (lit2 1 1 2 2) (rows_two _ _ w1.heap.size (w1.heap.size + 1) 1 1 2 2 (by go_simp) (by go_simp) (ints_two _ _ _ _ (by go_simp) (by go_simp) ⟨by omega, by omega⟩ ⟨by omega, by omega⟩) (ints_two _ _ _ _ (by go_simp) (by go_simp) ⟨by omega, by omega⟩ ⟨by omega, by omega⟩)) sys_two rfl).mono ?_
  rintro e w2 ⟨n, rfl, hn, hb⟩
  obtain rfl : n = 1 := hn.unique rk_one
  have B2 : Below w1.heap.size w1 w2 := by
    refine Below.trans ?_ (hb.mono (by simp; omega))
    exact ((((Below.refl _ _).alloc (Nat.le_refl _) _).alloc (by simp) _).alloc (by simp; omega) _)
  have c0 := keep_of_below B2 _ _ C.out.1
  have c1 := keep_of_below B2 _ _ C.out.2
  have B3 : Hid (Below w.heap.size w w2) := B1.out.trans (B2.mono B1.out.size)
  clear hb hn B2
  go_wp2_with fail
  go_ret
  exact ⟨rfl, B3.out⟩

end Go.Proofs.Ytilkcbnioebinaa
