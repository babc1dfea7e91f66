/-
  The laws' fixed answer.
-/
import Derived.Test.YtjbpbahaekbmlaaIp6Put2
import Derived.Test.YtjbpbahaekbmlaaIp6Take
import Derived.Test.YtjbpbahaekbmlaaIp6Piece
namespace Go.Proofs.Ytjbpbahaekbmlaa
open Go.RowKit Oc Ip6 Go.Deep
set_option linter.unusedVariables false

theorem hd_small (l : List UInt8) : (hdOf l).ch.length ≤ 8 ∧ ∀ (i : Nat) (x : Ex), (hdOf l).ch[i]? = some x → x.data.length ≤ 2046 := by
  by_cases h : takeE l = 0
  · obtain ⟨hR, _⟩ := right_of h
    exact ⟨hR.2.2.2.2.2.2.2.1, fun i x hx => data_le (hR.2.2.2.2.2.2.2.2 i x hx).2.2⟩
  · rw [(take_err h).1]
    exact ⟨by decide, fun i x hx => by simp [zeroHd] at hx⟩
def wakeF : Hd := ⟨(0 : Nat), (0 : Nat), (0 : Nat), (17 : Nat), [115, 115, 115, 115, 115, 115, 115, 115, 115, 115, 115, 115, 115, 115, 115, 115], [100, 100, 100, 100, 100, 100, 100, 100, 100, 100, 100, 100, 100, 100, 100, 100], [⟨60, [97, 98, 99, 100, 101, 102]⟩]⟩
theorem wake_right : RightP wakeF := by
  refine ⟨by decide, by decide, by decide, by decide, by decide, by decide, by decide, by decide, fun i x hx => ?_⟩
  cases i with
  | zero =>
    simp [wakeF] at hx
    subst hx
    exact ⟨by decide, fun _ => rfl, (fun e => (by cases e)), (fun _ => (by decide))⟩
  | succ i => simp [wakeF] at hx
theorem wake_len : (putL wakeF [120]).length = 49 := by rw [put_len wake_right]; decide +kernel
theorem wake_take : takeE (putL wakeF [120]) = 0 ∧ hdOf (putL wakeF [120]) = wakeF ∧ bodyOf (putL wakeF [120]) = [120] := by
  have e := back wake_right [120] [] (by decide +kernel)
  rw [List.append_nil] at e
  exact e
theorem wake_piece : ¬ PieceP wakeF.ch := by
  rintro ⟨i, x, hx, hf⟩
  cases i with
  | zero =>
    simp [wakeF] at hx
    subst hx
    have := hf.1
    cases this
  | succ i => simp [wakeF] at hx
theorem wake_at {w : World} {g : Nat} (h : Blk w g 49 #[.int .i64 60, .string ⟨#[97, 98, 99, 100, 101, 102]⟩]) : HdAt w (.agg #[.int .i64 0, .int .i64 0, .int .i64 0, .int .i64 17, .string ⟨#[115, 115, 115, 115, 115, 115, 115, 115, 115, 115, 115, 115, 115, 115, 115, 115]⟩, .string ⟨#[100, 100, 100, 100, 100, 100, 100, 100, 100, 100, 100, 100, 100, 100, 100, 100]⟩, .slice (some ⟨g, 0, none⟩) 1 1]) wakeF := by
  refine ⟨_, rfl, _, 1, g, 0, rfl, Nat.le_refl _, fun _ => rfl, fun i x hx => ?_⟩
  cases i with
  | zero =>
    simp [wakeF] at hx
    subst hx
    exact ⟨h.cell 0, h.cell 1⟩
  | succ i => simp [wakeF] at hx
set_option maxHeartbeats 3200000 in
theorem awake_any (w : World) : Calls Try.prog 8 #[] w fun e w' => e = .returned (.bool true) ∧ Below w.heap.size w w' := by
  have B1 : Hid (Below w.heap.size w (w.alloc (.cells #[.int .i64 60, .string ⟨#[97, 98, 99, 100, 101, 102]⟩] 49))) := bel_alloc _ _
  have K1 : Hid (Blk (w.alloc (.cells #[.int .i64 60, .string ⟨#[97, 98, 99, 100, 101, 102]⟩] 49)) w.heap.size 49 #[.int .i64 60, .string ⟨#[97, 98, 99, 100, 101, 102]⟩]) := Blk.new _ _ _
  have CC : Hid ((chainL wakeF.ch wakeF.pro).length + ([120] : List UInt8).length ≤ 65535) := by show _ ≤ _; decide +kernel
  have ZL := wake_len
  have ZT : Hid (takeE (putL wakeF [120]) = 0 ∧ hdOf (putL wakeF [120]) = wakeF ∧ bodyOf (putL wakeF [120]) = [120]) := wake_take
  have PT : Hid (∀ (u : World) (g : Nat), Blk u g 49 #[.int .i64 60, .string ⟨#[97, 98, 99, 100, 101, 102]⟩] → Calls Try.prog 16 #[.agg #[.int .i64 0, .int .i64 0, .int .i64 0, .int .i64 17, .string ⟨#[115, 115, 115, 115, 115, 115, 115, 115, 115, 115, 115, 115, 115, 115, 115, 115]⟩, .string ⟨#[100, 100, 100, 100, 100, 100, 100, 100, 100, 100, 100, 100, 100, 100, 100, 100]⟩, .slice (some ⟨g, 0, none⟩) 1 1], .string ⟨#[120]⟩] u (Wrote u (putL wakeF [120]) 0)) := fun u g hb =>
    (pput_two u 0 0 0 17 [115, 115, 115, 115, 115, 115, 115, 115, 115, 115, 115, 115, 115, 115, 115, 115] [100, 100, 100, 100, 100, 100, 100, 100, 100, 100, 100, 100, 100, 100, 100, 100] [120] [⟨60, [97, 98, 99, 100, 101, 102]⟩] (some ⟨g, 0, none⟩) 1 1 (wake_at hb) wake_right (by decide)).mono fun e w' h => h.1 CC.out
  generalize putL wakeF [120] = Zl at ZL ZT PT
  go_enter Try.func8, Try.ntmps8
  go_wp2_with fail
  refine (PT.out _ _ (K1.out.alloc _)).mono ?_
  rintro e u1 ⟨rfl, b1⟩
  have B2 : Hid (Below w.heap.size w u1) := bel_trans (B1.out.alloc B1.out.size _) b1
  clear b1
  go_wp2_with fail
  refine (ptake_any _ Zl (by omega)).mono ?_
  rintro e u2 ⟨c, b, h, p, s, d, C, A, n, cap, r, E, rfl, hq, hC, bb⟩
  obtain ⟨rfl, rfl, rfl, rfl, rfl, rfl, rfl⟩ := Hd.mk.inj (ZT.out.2.1.symm.trans hq.1)
  obtain rfl := ZT.out.2.2.symm.trans hq.2.1
  obtain rfl := hq.2.2.1.symm.trans ZT.out.1
  obtain rfl : 1 = n := hq.2.2.2
  have HX : Hid (∀ w' : World, Keep u2 w' → HdAt w' (.agg #[.int .i64 ((0 : Nat) : Int), .int .i64 ((0 : Nat) : Int), .int .i64 ((0 : Nat) : Int), .int .i64 ((17 : Nat) : Int), .string (bsL [115, 115, 115, 115, 115, 115, 115, 115, 115, 115, 115, 115, 115, 115, 115, 115]), .string (bsL [100, 100, 100, 100, 100, 100, 100, 100, 100, 100, 100, 100, 100, 100, 100, 100]), .slice A 1 cap]) wakeF) := fun w' k => ⟨_, rfl, hC.keep k⟩
  have B3 : Hid (Below w.heap.size w (u2.alloc (.cells #[.int .i64 ((0 : Nat) : Int), .int .i64 ((0 : Nat) : Int), .int .i64 ((0 : Nat) : Int), .int .i64 ((17 : Nat) : Int), .string (bsL [115, 115, 115, 115, 115, 115, 115, 115, 115, 115, 115, 115, 115, 115, 115, 115]), .string (bsL [100, 100, 100, 100, 100, 100, 100, 100, 100, 100, 100, 100, 100, 100, 100, 100]), .slice A 1 cap] 25))) := (bel_trans B2.out bb).alloc (bel_trans B2.out bb).size _
  have KP : Hid (Keep u2 (u2.alloc (.cells #[.int .i64 ((0 : Nat) : Int), .int .i64 ((0 : Nat) : Int), .int .i64 ((0 : Nat) : Int), .int .i64 ((17 : Nat) : Int), .string (bsL [115, 115, 115, 115, 115, 115, 115, 115, 115, 115, 115, 115, 115, 115, 115, 115]), .string (bsL [100, 100, 100, 100, 100, 100, 100, 100, 100, 100, 100, 100, 100, 100, 100, 100]), .slice A 1 cap] 25))) := keep_of_below (bel_alloc _ _)
  clear hq hC bb
  rw [show bsL ([120] : List UInt8) = ⟨#[120]⟩ from rfl]
  go_wp2_with fail
  refine (piece_any _ _ wakeF (HX.out _ KP.out) (by decide) (fun i x hx => by have := data_le (wake_right.2.2.2.2.2.2.2.2 i x hx).2.2; omega)).mono ?_
  rintro e u3 ⟨B, rfl, hB, b3⟩
  have eB : B = false := by cases B with
    | false => rfl
    | true => exact absurd (hB.1 rfl) wake_piece
  subst eB
  clear hB
  go_wp2_with fail
  go_ret
  exact ⟨rfl, bel_trans B3.out b3⟩
end Go.Proofs.Ytjbpbahaekbmlaa
