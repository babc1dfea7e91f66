/-
  Extract of layer 9 (flow): what it answers of any frame.
-/
import Derived.Test.YticopigpgaomjaaFlowKey
import Derived.Test.YticopigpgaomjaaEthTake
import Derived.Test.YticopigpgaomjaaIp4Take
import Derived.Test.YticopigpgaomjaaIp6Take
import Derived.Test.YticopigpgaomjaaIp6Piece
import Derived.Test.YticopigpgaomjaaPortTake
namespace Go.Proofs.Yticopigpgaomjaa
open Go.RowKit Oc Pt Fl Go.Deep
set_option linter.unusedVariables false

theorem piece_iff (C : List Ip6.Ex) : L7.PieceP C ↔ pieceB C = true := by
  unfold L7.PieceP pieceB
  rw [List.any_eq_true]
  constructor
  · rintro ⟨i, x, h, h1, h2, h3⟩
    exact ⟨x, List.mem_of_getElem? h, by simp [furB, h1, h2, h3]⟩
  · rintro ⟨x, hx, h⟩
    obtain ⟨i, hi⟩ := List.getElem?_of_mem hx
    simp [furB] at h
    exact ⟨i, x, hi, h.1, h.2.1, h.2.2⟩
/-- What a packet tells. -/
def Packed (w : World) (k : Pk) (e : Ending) (w' : World) : Prop := ∃ (s d : List UInt8) (p : Int) (b : List UInt8) (E : Nat), e = .returned (.tuple #[.agg #[.string (bsL s), .string (bsL d), .int .i64 p, .int .i64 0, .int .i64 0], .string (bsL b), .int .i64 (E : Int)]) ∧ k = ⟨E, s, d, p, b⟩ ∧ Below w.heap.size w w'
theorem packed_no {w w' : World} {k : Pk} {E : Nat} (h : k = noPk E) (hb : Below w.heap.size w w') : Packed w k (.returned (.tuple #[.agg #[.string ⟨#[]⟩, .string ⟨#[]⟩, .int .i64 0, .int .i64 0, .int .i64 0], .string ⟨#[]⟩, .int .i64 (E : Int)])) w' := ⟨[], [], 0, [], E, rfl, h, hb⟩
set_option maxHeartbeats 6400000 in
theorem fl_four (w : World) (r : List UInt8) (hl : r.length ≤ 1152921504606846976) : Calls Try.prog 47 #[.string (bsL r)] w (Packed w (pk4 r)) := by
  have B0 : Hid (Below w.heap.size w (w.alloc (.cells #[.string ⟨#[]⟩, .string ⟨#[]⟩, .int .i64 0, .int .i64 0, .int .i64 0] 24))) := bel_alloc _ _
  have K0 : Hid (Blk (w.alloc (.cells #[.string ⟨#[]⟩, .string ⟨#[]⟩, .int .i64 0, .int .i64 0, .int .i64 0] 24)) w.heap.size 24 #[.string ⟨#[]⟩, .string ⟨#[]⟩, .int .i64 0, .int .i64 0, .int .i64 0]) := Blk.new _ _ _
  go_enter Try.func47, Try.ntmps47
  go_wp2_with fail
  refine (L6.ptake_any _ r hl).mono ?_
  rintro e u1 ⟨t, i, f, O, h, p, s, d, q, b, c, rfl, hx, b1⟩
  have K1 : Hid (Blk u1 w.heap.size 24 #[.string ⟨#[]⟩, .string ⟨#[]⟩, .int .i64 0, .int .i64 0, .int .i64 0]) := K0.out.since b1
  have B1 : Hid (Below w.heap.size w u1) := bel_trans B0.out b1
  have hsz : w.heap.size < u1.heap.size := K1.out.lt
  clear b1
  by_cases hc : c = 0
  rotate_left
  · have q0 : ((c : Int) != 0) = true := by simp; omega
    have E : Hid (pk4 r = noPk c) := by
      show pk4 r = _
      rw [four_err (by rw [hx.2.2]; exact hc), hx.2.2]
    clear hx hc
    have x0 : u1.cell? ⟨w.heap.size, 0, none⟩ = some (.string ⟨#[]⟩) := K1.out.cell 0
    have x1 : u1.cell? ⟨w.heap.size, 1, none⟩ = some (.string ⟨#[]⟩) := K1.out.cell 1
    have x2 : u1.cell? ⟨w.heap.size, 2, none⟩ = some (.int .i64 0) := K1.out.cell 2
    have x3 : u1.cell? ⟨w.heap.size, 3, none⟩ = some (.int .i64 0) := K1.out.cell 3
    have x4 : u1.cell? ⟨w.heap.size, 4, none⟩ = some (.int .i64 0) := K1.out.cell 4
    have y0 := K1.out.frozen 0
    have y1 := K1.out.frozen 1
    have y2 := K1.out.frozen 2
    have y3 := K1.out.frozen 3
    have y4 := K1.out.frozen 4
    go_wp2_with fail
    refine bodyPost_ret (v := .tuple #[.agg #[.string ⟨#[]⟩, .string ⟨#[]⟩, .int .i64 0, .int .i64 0, .int .i64 0], .string ⟨#[]⟩, .int .i64 (c : Int)]) ?_ rfl (packed_no (E := c) E.out (bel_trans (put5_below B1.out (Nat.le_refl _) _ _ _ _ _) (bel_alloc _ _)))
    have c5 := (put5_blk (t := 24) K1.out (.string ⟨#[]⟩) (.string ⟨#[]⟩) (.int .i64 0) (.int .i64 0) (.int .i64 0)).alloc (.cells #[.int .i64 t, .int .i64 i, .int .i64 f, .int .i64 O, .int .i64 h, .int .i64 p, .string (bsL s), .string (bsL d), .string (bsL q)] 42)
    have c50 := c5.cell 0
    have c51 := c5.cell 1
    have c52 := c5.cell 2
    have c53 := c5.cell 3
    have c54 := c5.cell 4
    change (results _ _).run _ ((put5 u1 w.heap.size (.string ⟨#[]⟩) (.string ⟨#[]⟩) (.int .i64 0) (.int .i64 0) (.int .i64 0)).alloc (.cells #[.int .i64 t, .int .i64 i, .int .i64 f, .int .i64 O, .int .i64 h, .int .i64 p, .string (bsL s), .string (bsL d), .string (bsL q)] 42)) = .ok _ ((put5 u1 w.heap.size (.string ⟨#[]⟩) (.string ⟨#[]⟩) (.int .i64 0) (.int .i64 0) (.int .i64 0)).alloc (.cells #[.int .i64 t, .int .i64 i, .int .i64 f, .int .i64 O, .int .i64 h, .int .i64 p, .string (bsL s), .string (bsL d), .string (bsL q)] 42))
    generalize (put5 u1 w.heap.size (.string ⟨#[]⟩) (.string ⟨#[]⟩) (.int .i64 0) (.int .i64 0) (.int .i64 0)).alloc (.cells #[.int .i64 t, .int .i64 i, .int .i64 f, .int .i64 O, .int .i64 h, .int .i64 p, .string (bsL s), .string (bsL d), .string (bsL q)] 42) = W5 at c50 c51 c52 c53 c54
    simp [results, Try.results47, go_sem, c50, c51, c52, c53, c54]
  subst hc
  by_cases hO : O = 0
  rotate_left
  · have q0 : (O != 0) = true := by simp; exact hO
    have E : Hid (pk4 r = noPk 14) := by
      show pk4 r = _
      rw [four_piece hx.2.2 (by rw [hx.1]; exact hO)]
    clear hx hO
    have x0 : u1.cell? ⟨w.heap.size, 0, none⟩ = some (.string ⟨#[]⟩) := K1.out.cell 0
    have x1 : u1.cell? ⟨w.heap.size, 1, none⟩ = some (.string ⟨#[]⟩) := K1.out.cell 1
    have x2 : u1.cell? ⟨w.heap.size, 2, none⟩ = some (.int .i64 0) := K1.out.cell 2
    have x3 : u1.cell? ⟨w.heap.size, 3, none⟩ = some (.int .i64 0) := K1.out.cell 3
    have x4 : u1.cell? ⟨w.heap.size, 4, none⟩ = some (.int .i64 0) := K1.out.cell 4
    have y0 := K1.out.frozen 0
    have y1 := K1.out.frozen 1
    have y2 := K1.out.frozen 2
    have y3 := K1.out.frozen 3
    have y4 := K1.out.frozen 4
    go_wp2_with fail
    refine bodyPost_ret (v := .tuple #[.agg #[.string ⟨#[]⟩, .string ⟨#[]⟩, .int .i64 0, .int .i64 0, .int .i64 0], .string ⟨#[]⟩, .int .i64 14]) ?_ rfl (packed_no (E := 14) E.out (bel_trans (put5_below B1.out (Nat.le_refl _) _ _ _ _ _) (bel_alloc _ _)))
    have c5 := (put5_blk (t := 24) K1.out (.string ⟨#[]⟩) (.string ⟨#[]⟩) (.int .i64 0) (.int .i64 0) (.int .i64 0)).alloc (.cells #[.int .i64 t, .int .i64 i, .int .i64 f, .int .i64 O, .int .i64 h, .int .i64 p, .string (bsL s), .string (bsL d), .string (bsL q)] 42)
    have c50 := c5.cell 0
    have c51 := c5.cell 1
    have c52 := c5.cell 2
    have c53 := c5.cell 3
    have c54 := c5.cell 4
    change (results _ _).run _ ((put5 u1 w.heap.size (.string ⟨#[]⟩) (.string ⟨#[]⟩) (.int .i64 0) (.int .i64 0) (.int .i64 0)).alloc (.cells #[.int .i64 t, .int .i64 i, .int .i64 f, .int .i64 O, .int .i64 h, .int .i64 p, .string (bsL s), .string (bsL d), .string (bsL q)] 42)) = .ok _ ((put5 u1 w.heap.size (.string ⟨#[]⟩) (.string ⟨#[]⟩) (.int .i64 0) (.int .i64 0) (.int .i64 0)).alloc (.cells #[.int .i64 t, .int .i64 i, .int .i64 f, .int .i64 O, .int .i64 h, .int .i64 p, .string (bsL s), .string (bsL d), .string (bsL q)] 42))
    generalize (put5 u1 w.heap.size (.string ⟨#[]⟩) (.string ⟨#[]⟩) (.int .i64 0) (.int .i64 0) (.int .i64 0)).alloc (.cells #[.int .i64 t, .int .i64 i, .int .i64 f, .int .i64 O, .int .i64 h, .int .i64 p, .string (bsL s), .string (bsL d), .string (bsL q)] 42) = W5 at c50 c51 c52 c53 c54
    simp [results, Try.results47, go_sem, c50, c51, c52, c53, c54]
  subst hO
  have E : Hid (pk4 r = ⟨0, aheadL ++ s, aheadL ++ d, p, b⟩) := by
    show pk4 r = _
    rw [four_ok hx.2.2 (by rw [hx.1]), hx.1, hx.2.1]
  have R : Hid (s.length = 4 ∧ d.length = 4) := by
    obtain ⟨_, _, _, _, _, _, r7, r8, _⟩ := Ip4.fine_right ((Ip4.fine_iff r).1 hx.2.2)
    rw [hx.1] at r7 r8
    exact ⟨r7, r8⟩
  have A0 : (⟨#[0, 0, 0, 0, 0, 0, 0, 0, 0, 0, 255, 255]⟩ : ByteArray) = bsL aheadL := rfl
  have A1 : aheadL.length = 12 := rfl
  have r7 := R.out.1
  have r8 := R.out.2
  clear hx
  have x0 : u1.cell? ⟨w.heap.size, 0, none⟩ = some (.string ⟨#[]⟩) := K1.out.cell 0
  have x1 : u1.cell? ⟨w.heap.size, 1, none⟩ = some (.string ⟨#[]⟩) := K1.out.cell 1
  have x2 : u1.cell? ⟨w.heap.size, 2, none⟩ = some (.int .i64 0) := K1.out.cell 2
  have x3 : u1.cell? ⟨w.heap.size, 3, none⟩ = some (.int .i64 0) := K1.out.cell 3
  have x4 : u1.cell? ⟨w.heap.size, 4, none⟩ = some (.int .i64 0) := K1.out.cell 4
  have y0 := K1.out.frozen 0
  have y1 := K1.out.frozen 1
  have y2 := K1.out.frozen 2
  have y3 := K1.out.frozen 3
  have y4 := K1.out.frozen 4
  go_wp2_with fail
  refine bodyPost_ret (v := .tuple #[.agg #[.string (bsL (aheadL ++ s)), .string (bsL (aheadL ++ d)), .int .i64 p, .int .i64 0, .int .i64 0], .string (bsL b), .int .i64 0]) ?_ rfl ⟨aheadL ++ s, aheadL ++ d, p, b, 0, rfl, E.out, (bel_trans (put5_below B1.out (Nat.le_refl _) _ _ _ _ _) (bel_alloc _ _))⟩
  have c5 := (put5_blk (t := 24) K1.out (.string (bsL (aheadL ++ s))) (.string (bsL (aheadL ++ d))) (.int .i64 p) (.int .i64 0) (.int .i64 0)).alloc (.cells #[.int .i64 t, .int .i64 i, .int .i64 f, .int .i64 0, .int .i64 h, .int .i64 p, .string (bsL s), .string (bsL d), .string (bsL q)] 42)
  have c50 := c5.cell 0
  have c51 := c5.cell 1
  have c52 := c5.cell 2
  have c53 := c5.cell 3
  have c54 := c5.cell 4
  change (results _ _).run _ ((put5 u1 w.heap.size (.string (bsL (aheadL ++ s))) (.string (bsL (aheadL ++ d))) (.int .i64 p) (.int .i64 0) (.int .i64 0)).alloc (.cells #[.int .i64 t, .int .i64 i, .int .i64 f, .int .i64 0, .int .i64 h, .int .i64 p, .string (bsL s), .string (bsL d), .string (bsL q)] 42)) = .ok _ ((put5 u1 w.heap.size (.string (bsL (aheadL ++ s))) (.string (bsL (aheadL ++ d))) (.int .i64 p) (.int .i64 0) (.int .i64 0)).alloc (.cells #[.int .i64 t, .int .i64 i, .int .i64 f, .int .i64 0, .int .i64 h, .int .i64 p, .string (bsL s), .string (bsL d), .string (bsL q)] 42))
  generalize (put5 u1 w.heap.size (.string (bsL (aheadL ++ s))) (.string (bsL (aheadL ++ d))) (.int .i64 p) (.int .i64 0) (.int .i64 0)).alloc (.cells #[.int .i64 t, .int .i64 i, .int .i64 f, .int .i64 0, .int .i64 h, .int .i64 p, .string (bsL s), .string (bsL d), .string (bsL q)] 42) = W5 at c50 c51 c52 c53 c54
  simp [results, Try.results47, go_sem, c50, c51, c52, c53, c54]
set_option maxHeartbeats 6400000 in
theorem fl_six (w : World) (r : List UInt8) (hl : r.length ≤ 1152921504606846976) : Calls Try.prog 48 #[.string (bsL r)] w (Packed w (pk6 r)) := by
  have B0 : Hid (Below w.heap.size w (w.alloc (.cells #[.string ⟨#[]⟩, .string ⟨#[]⟩, .int .i64 0, .int .i64 0, .int .i64 0] 24))) := bel_alloc _ _
  have K0 : Hid (Blk (w.alloc (.cells #[.string ⟨#[]⟩, .string ⟨#[]⟩, .int .i64 0, .int .i64 0, .int .i64 0] 24)) w.heap.size 24 #[.string ⟨#[]⟩, .string ⟨#[]⟩, .int .i64 0, .int .i64 0, .int .i64 0]) := Blk.new _ _ _
  go_enter Try.func48, Try.ntmps48
  go_wp2_with fail
  refine (L7.ptake_any _ r hl).mono ?_
  rintro e u1 ⟨cc, lb, hp, p, s, d, C, A, n, cap, b, c, rfl, hx, hch, b1⟩
  have K1 : Hid (Blk u1 w.heap.size 24 #[.string ⟨#[]⟩, .string ⟨#[]⟩, .int .i64 0, .int .i64 0, .int .i64 0]) := K0.out.since b1
  have B1 : Hid (Below w.heap.size w u1) := bel_trans B0.out b1
  have hsz : w.heap.size < u1.heap.size := K1.out.lt
  clear b1
  have K2 : Hid (Blk (u1.alloc (.cells #[.int .i64 cc, .int .i64 lb, .int .i64 hp, .int .i64 p, .string (bsL s), .string (bsL d), .slice A n cap] 113)) w.heap.size 24 #[.string ⟨#[]⟩, .string ⟨#[]⟩, .int .i64 0, .int .i64 0, .int .i64 0]) := K1.out.alloc _
  have B2 : Hid (Below w.heap.size w (u1.alloc (.cells #[.int .i64 cc, .int .i64 lb, .int .i64 hp, .int .i64 p, .string (bsL s), .string (bsL d), .slice A n cap] 113))) := bel_trans B1.out (bel_alloc _ _)
  have x0 : u1.cell? ⟨w.heap.size, 0, none⟩ = some (.string ⟨#[]⟩) := K1.out.cell 0
  have x1 : u1.cell? ⟨w.heap.size, 1, none⟩ = some (.string ⟨#[]⟩) := K1.out.cell 1
  have x2 : u1.cell? ⟨w.heap.size, 2, none⟩ = some (.int .i64 0) := K1.out.cell 2
  have x3 : u1.cell? ⟨w.heap.size, 3, none⟩ = some (.int .i64 0) := K1.out.cell 3
  have x4 : u1.cell? ⟨w.heap.size, 4, none⟩ = some (.int .i64 0) := K1.out.cell 4
  have y0 := K1.out.frozen 0
  have y1 := K1.out.frozen 1
  have y2 := K1.out.frozen 2
  have y3 := K1.out.frozen 3
  have y4 := K1.out.frozen 4
  by_cases hc : c = 0
  rotate_left
  · have q0 : ((c : Int) != 0) = true := by simp; omega
    have E : Hid (pk6 r = noPk c) := by
      show pk6 r = _
      rw [six_err (by rw [hx.2.2.1]; exact hc), hx.2.2.1]
    clear hx hc hch
    go_wp2_with fail
    refine bodyPost_ret (v := .tuple #[.agg #[.string ⟨#[]⟩, .string ⟨#[]⟩, .int .i64 0, .int .i64 0, .int .i64 0], .string ⟨#[]⟩, .int .i64 (c : Int)]) ?_ rfl (packed_no (E := c) E.out (bel_trans (put5_below B1.out (Nat.le_refl _) _ _ _ _ _) (bel_alloc _ _)))
    have c5 := (put5_blk (t := 24) K1.out (.string ⟨#[]⟩) (.string ⟨#[]⟩) (.int .i64 0) (.int .i64 0) (.int .i64 0)).alloc (.cells #[.int .i64 cc, .int .i64 lb, .int .i64 hp, .int .i64 p, .string (bsL s), .string (bsL d), .slice A n cap] 113)
    have c50 := c5.cell 0
    have c51 := c5.cell 1
    have c52 := c5.cell 2
    have c53 := c5.cell 3
    have c54 := c5.cell 4
    change (results _ _).run _ ((put5 u1 w.heap.size (.string ⟨#[]⟩) (.string ⟨#[]⟩) (.int .i64 0) (.int .i64 0) (.int .i64 0)).alloc (.cells #[.int .i64 cc, .int .i64 lb, .int .i64 hp, .int .i64 p, .string (bsL s), .string (bsL d), .slice A n cap] 113)) = .ok _ ((put5 u1 w.heap.size (.string ⟨#[]⟩) (.string ⟨#[]⟩) (.int .i64 0) (.int .i64 0) (.int .i64 0)).alloc (.cells #[.int .i64 cc, .int .i64 lb, .int .i64 hp, .int .i64 p, .string (bsL s), .string (bsL d), .slice A n cap] 113))
    generalize (put5 u1 w.heap.size (.string ⟨#[]⟩) (.string ⟨#[]⟩) (.int .i64 0) (.int .i64 0) (.int .i64 0)).alloc (.cells #[.int .i64 cc, .int .i64 lb, .int .i64 hp, .int .i64 p, .string (bsL s), .string (bsL d), .slice A n cap] 113) = W5 at c50 c51 c52 c53 c54
    simp [results, Try.results48, go_sem, c50, c51, c52, c53, c54]
  subst hc
  have HX : Hid (Ip6.hdOf r = ⟨cc, lb, hp, p, s, d, C⟩ ∧ Ip6.bodyOf r = b ∧ Ip6.takeE r = 0) := ⟨hx.1, hx.2.1, hx.2.2.1⟩
  have HC : Hid (L7.HdAt (u1.alloc (.cells #[.int .i64 cc, .int .i64 lb, .int .i64 hp, .int .i64 p, .string (bsL s), .string (bsL d), .slice A n cap] 113)) (.agg #[.int .i64 cc, .int .i64 lb, .int .i64 hp, .int .i64 p, .string (bsL s), .string (bsL d), .slice A n cap]) ⟨cc, lb, hp, p, s, d, C⟩) := ⟨_, rfl, hch.keep (keep_of_below (bel_alloc _ _))⟩
  have HN : Hid (C.length ≤ 8 ∧ ∀ (i : Nat) (x : Ip6.Ex), C[i]? = some x → x.data.length ≤ 2046) := ch6 hx.1
  clear hx hch
  go_wp2_with fail
  refine (L7.piece_any _ _ _ HC.out (Nat.le_trans HN.out.1 (by decide)) (fun i x hx => Nat.le_trans (HN.out.2 i x hx) (by decide))).mono ?_
  rintro e u2 ⟨B, rfl, hB, b2⟩
  have K3 : Hid (Blk u2 w.heap.size 24 #[.string ⟨#[]⟩, .string ⟨#[]⟩, .int .i64 0, .int .i64 0, .int .i64 0]) := K2.out.since b2
  have B3 : Hid (Below w.heap.size w u2) := bel_trans B2.out b2
  have K4 : Hid (Blk u2 u1.heap.size 113 #[.int .i64 cc, .int .i64 lb, .int .i64 hp, .int .i64 p, .string (bsL s), .string (bsL d), .slice A n cap]) := (Blk.new _ _ _).since b2
  have z3 : u2.cell? ⟨u1.heap.size, 3, none⟩ = some (.int .i64 p) := K4.out.cell 3
  have z4 : u2.cell? ⟨u1.heap.size, 4, none⟩ = some (.string (bsL s)) := K4.out.cell 4
  have z5 : u2.cell? ⟨u1.heap.size, 5, none⟩ = some (.string (bsL d)) := K4.out.cell 5
  clear b2
  cases B
  rotate_left
  · have E : Hid (pk6 r = noPk 14) := by
      show pk6 r = _
      have h := (piece_iff _).1 (hB.1 rfl)
      rw [six_piece HX.out.2.2 (by rw [HX.out.1]; exact h)]
    clear hB
    have m0 : u2.cell? ⟨w.heap.size, 0, none⟩ = some (.string ⟨#[]⟩) := K3.out.cell 0
    have m1 : u2.cell? ⟨w.heap.size, 1, none⟩ = some (.string ⟨#[]⟩) := K3.out.cell 1
    have m2 : u2.cell? ⟨w.heap.size, 2, none⟩ = some (.int .i64 0) := K3.out.cell 2
    have m3 : u2.cell? ⟨w.heap.size, 3, none⟩ = some (.int .i64 0) := K3.out.cell 3
    have m4 : u2.cell? ⟨w.heap.size, 4, none⟩ = some (.int .i64 0) := K3.out.cell 4
    have n0 := K3.out.frozen 0
    have n1 := K3.out.frozen 1
    have n2 := K3.out.frozen 2
    have n3 := K3.out.frozen 3
    have n4 := K3.out.frozen 4
    go_wp2_with fail
    refine bodyPost_ret (v := .tuple #[.agg #[.string ⟨#[]⟩, .string ⟨#[]⟩, .int .i64 0, .int .i64 0, .int .i64 0], .string ⟨#[]⟩, .int .i64 14]) ?_ rfl (packed_no (E := 14) E.out (put5_below B3.out (Nat.le_refl _) _ _ _ _ _))
    have c5 := put5_blk (t := 24) K3.out (.string ⟨#[]⟩) (.string ⟨#[]⟩) (.int .i64 0) (.int .i64 0) (.int .i64 0)
    have c50 := c5.cell 0
    have c51 := c5.cell 1
    have c52 := c5.cell 2
    have c53 := c5.cell 3
    have c54 := c5.cell 4
    change (results _ _).run _ (put5 u2 w.heap.size (.string ⟨#[]⟩) (.string ⟨#[]⟩) (.int .i64 0) (.int .i64 0) (.int .i64 0)) = .ok _ (put5 u2 w.heap.size (.string ⟨#[]⟩) (.string ⟨#[]⟩) (.int .i64 0) (.int .i64 0) (.int .i64 0))
    generalize put5 u2 w.heap.size (.string ⟨#[]⟩) (.string ⟨#[]⟩) (.int .i64 0) (.int .i64 0) (.int .i64 0) = W5 at c50 c51 c52 c53 c54
    simp [results, Try.results48, go_sem, c50, c51, c52, c53, c54]
  have E : Hid (pk6 r = ⟨0, s, d, p, b⟩) := by
    show pk6 r = _
    have h : pieceB C = false := by
      cases e : pieceB C
      · rfl
      · exact absurd (hB.2 ((piece_iff _).2 e)) (by simp)
    rw [six_ok HX.out.2.2 (by rw [HX.out.1]; exact h), HX.out.1, HX.out.2.1]
  clear hB
  have m0 : u2.cell? ⟨w.heap.size, 0, none⟩ = some (.string ⟨#[]⟩) := K3.out.cell 0
  have m1 : u2.cell? ⟨w.heap.size, 1, none⟩ = some (.string ⟨#[]⟩) := K3.out.cell 1
  have m2 : u2.cell? ⟨w.heap.size, 2, none⟩ = some (.int .i64 0) := K3.out.cell 2
  have m3 : u2.cell? ⟨w.heap.size, 3, none⟩ = some (.int .i64 0) := K3.out.cell 3
  have m4 : u2.cell? ⟨w.heap.size, 4, none⟩ = some (.int .i64 0) := K3.out.cell 4
  have n0 := K3.out.frozen 0
  have n1 := K3.out.frozen 1
  have n2 := K3.out.frozen 2
  have n3 := K3.out.frozen 3
  have n4 := K3.out.frozen 4
  go_wp2_with fail
  refine bodyPost_ret (v := .tuple #[.agg #[.string (bsL s), .string (bsL d), .int .i64 p, .int .i64 0, .int .i64 0], .string (bsL b), .int .i64 0]) ?_ rfl ⟨s, d, p, b, 0, rfl, E.out, put5_below B3.out (Nat.le_refl _) _ _ _ _ _⟩
  have c5 := put5_blk (t := 24) K3.out (.string (bsL s)) (.string (bsL d)) (.int .i64 p) (.int .i64 0) (.int .i64 0)
  have c50 := c5.cell 0
  have c51 := c5.cell 1
  have c52 := c5.cell 2
  have c53 := c5.cell 3
  have c54 := c5.cell 4
  change (results _ _).run _ (put5 u2 w.heap.size (.string (bsL s)) (.string (bsL d)) (.int .i64 p) (.int .i64 0) (.int .i64 0)) = .ok _ (put5 u2 w.heap.size (.string (bsL s)) (.string (bsL d)) (.int .i64 p) (.int .i64 0) (.int .i64 0))
  generalize put5 u2 w.heap.size (.string (bsL s)) (.string (bsL d)) (.int .i64 p) (.int .i64 0) (.int .i64 0) = W5 at c50 c51 c52 c53 c54
  simp [results, Try.results48, go_sem, c50, c51, c52, c53, c54]
set_option maxHeartbeats 6400000 in
theorem fl_packet (w : World) (T : Int) (r : List UInt8) (hl : r.length ≤ 1152921504606846976) : Calls Try.prog 24 #[.int .i64 T, .string (bsL r)] w (Packed w (pkOf T r)) := by
  have B0 : Hid (Below w.heap.size w (w.alloc (.cells #[.string ⟨#[]⟩, .string ⟨#[]⟩, .int .i64 0, .int .i64 0, .int .i64 0] 24))) := bel_alloc _ _
  have K0 : Hid (Blk (w.alloc (.cells #[.string ⟨#[]⟩, .string ⟨#[]⟩, .int .i64 0, .int .i64 0, .int .i64 0] 24)) w.heap.size 24 #[.string ⟨#[]⟩, .string ⟨#[]⟩, .int .i64 0, .int .i64 0, .int .i64 0]) := Blk.new _ _ _
  by_cases h1 : T = 2048
  · subst h1
    rw [of_four]
    go_enter Try.func24, Try.ntmps24
    go_wp2_with fail
    refine (fl_four _ r hl).mono ?_
    rintro e u1 ⟨s, d, p, b, E, rfl, hk, b1⟩
    have K1 : Hid (Blk u1 w.heap.size 24 #[.string ⟨#[]⟩, .string ⟨#[]⟩, .int .i64 0, .int .i64 0, .int .i64 0]) := K0.out.since b1
    have B1 : Hid (Below w.heap.size w u1) := bel_trans B0.out b1
    have HK : Hid (_ = _) := hk
    clear b1 hk
    have x0 : u1.cell? ⟨w.heap.size, 0, none⟩ = some (.string ⟨#[]⟩) := K1.out.cell 0
    have x1 : u1.cell? ⟨w.heap.size, 1, none⟩ = some (.string ⟨#[]⟩) := K1.out.cell 1
    have x2 : u1.cell? ⟨w.heap.size, 2, none⟩ = some (.int .i64 0) := K1.out.cell 2
    have x3 : u1.cell? ⟨w.heap.size, 3, none⟩ = some (.int .i64 0) := K1.out.cell 3
    have x4 : u1.cell? ⟨w.heap.size, 4, none⟩ = some (.int .i64 0) := K1.out.cell 4
    have y0 := K1.out.frozen 0
    have y1 := K1.out.frozen 1
    have y2 := K1.out.frozen 2
    have y3 := K1.out.frozen 3
    have y4 := K1.out.frozen 4
    go_wp2_with fail
    refine bodyPost_ret (v := .tuple #[.agg #[.string (bsL s), .string (bsL d), .int .i64 p, .int .i64 0, .int .i64 0], .string (bsL b), .int .i64 (E : Int)]) ?_ rfl ⟨s, d, p, b, E, rfl, HK.out, put5_below B1.out (Nat.le_refl _) _ _ _ _ _⟩
    have c5 := put5_blk (t := 24) K1.out (.string (bsL s)) (.string (bsL d)) (.int .i64 p) (.int .i64 0) (.int .i64 0)
    have c50 := c5.cell 0
    have c51 := c5.cell 1
    have c52 := c5.cell 2
    have c53 := c5.cell 3
    have c54 := c5.cell 4
    change (results _ _).run _ (put5 u1 w.heap.size (.string (bsL s)) (.string (bsL d)) (.int .i64 p) (.int .i64 0) (.int .i64 0)) = .ok _ (put5 u1 w.heap.size (.string (bsL s)) (.string (bsL d)) (.int .i64 p) (.int .i64 0) (.int .i64 0))
    generalize put5 u1 w.heap.size (.string (bsL s)) (.string (bsL d)) (.int .i64 p) (.int .i64 0) (.int .i64 0) = W5 at c50 c51 c52 c53 c54
    simp [results, Try.results24, go_sem, c50, c51, c52, c53, c54]
  by_cases h2 : T = 34525
  · subst h2
    rw [of_six]
    go_enter Try.func24, Try.ntmps24
    go_wp2_with fail
    refine (fl_six _ r hl).mono ?_
    rintro e u1 ⟨s, d, p, b, E, rfl, hk, b1⟩
    have K1 : Hid (Blk u1 w.heap.size 24 #[.string ⟨#[]⟩, .string ⟨#[]⟩, .int .i64 0, .int .i64 0, .int .i64 0]) := K0.out.since b1
    have B1 : Hid (Below w.heap.size w u1) := bel_trans B0.out b1
    have HK : Hid (_ = _) := hk
    clear b1 hk
    have x0 : u1.cell? ⟨w.heap.size, 0, none⟩ = some (.string ⟨#[]⟩) := K1.out.cell 0
    have x1 : u1.cell? ⟨w.heap.size, 1, none⟩ = some (.string ⟨#[]⟩) := K1.out.cell 1
    have x2 : u1.cell? ⟨w.heap.size, 2, none⟩ = some (.int .i64 0) := K1.out.cell 2
    have x3 : u1.cell? ⟨w.heap.size, 3, none⟩ = some (.int .i64 0) := K1.out.cell 3
    have x4 : u1.cell? ⟨w.heap.size, 4, none⟩ = some (.int .i64 0) := K1.out.cell 4
    have y0 := K1.out.frozen 0
    have y1 := K1.out.frozen 1
    have y2 := K1.out.frozen 2
    have y3 := K1.out.frozen 3
    have y4 := K1.out.frozen 4
    go_wp2_with fail
    refine bodyPost_ret (v := .tuple #[.agg #[.string (bsL s), .string (bsL d), .int .i64 p, .int .i64 0, .int .i64 0], .string (bsL b), .int .i64 (E : Int)]) ?_ rfl ⟨s, d, p, b, E, rfl, HK.out, put5_below B1.out (Nat.le_refl _) _ _ _ _ _⟩
    have c5 := put5_blk (t := 24) K1.out (.string (bsL s)) (.string (bsL d)) (.int .i64 p) (.int .i64 0) (.int .i64 0)
    have c50 := c5.cell 0
    have c51 := c5.cell 1
    have c52 := c5.cell 2
    have c53 := c5.cell 3
    have c54 := c5.cell 4
    change (results _ _).run _ (put5 u1 w.heap.size (.string (bsL s)) (.string (bsL d)) (.int .i64 p) (.int .i64 0) (.int .i64 0)) = .ok _ (put5 u1 w.heap.size (.string (bsL s)) (.string (bsL d)) (.int .i64 p) (.int .i64 0) (.int .i64 0))
    generalize put5 u1 w.heap.size (.string (bsL s)) (.string (bsL d)) (.int .i64 p) (.int .i64 0) (.int .i64 0) = W5 at c50 c51 c52 c53 c54
    simp [results, Try.results24, go_sem, c50, c51, c52, c53, c54]
  have q1 : (T == 2048) = false := by simpa using h1
  have q2 : (T == 34525) = false := by simpa using h2
  have E : Hid (pkOf T r = noPk 8) := of_none r h1 h2
  clear h1 h2
  go_enter Try.func24, Try.ntmps24
  go_wp2_with fail
  go_returns
  exact packed_no (E := 8) E.out B0.out
set_option maxHeartbeats 6400000 in
theorem fl_ports (w : World) (s d : List UInt8) (p : Int) (b : List UInt8) (hl : b.length ≤ 1152921504606846976) : Calls Try.prog 25 #[.agg #[.string (bsL s), .string (bsL d), .int .i64 p, .int .i64 0, .int .i64 0], .string (bsL b)] w (Gave w (ansW s d p b)) := by
  have KB : Hid (Blk ((w.alloc (.cells #[.string (bsL s), .string (bsL d), .int .i64 p, .int .i64 0, .int .i64 0] 24)).alloc (.cells #[.string ⟨#[]⟩, .string ⟨#[]⟩, .int .i64 0, .int .i64 0, .int .i64 0] 24)) w.heap.size 24 #[.string (bsL s), .string (bsL d), .int .i64 p, .int .i64 0, .int .i64 0]) := (Blk.new _ _ _).alloc _
  have K0 : Hid (Blk ((w.alloc (.cells #[.string (bsL s), .string (bsL d), .int .i64 p, .int .i64 0, .int .i64 0] 24)).alloc (.cells #[.string ⟨#[]⟩, .string ⟨#[]⟩, .int .i64 0, .int .i64 0, .int .i64 0] 24)) (w.heap.size + 1) 24 #[.string ⟨#[]⟩, .string ⟨#[]⟩, .int .i64 0, .int .i64 0, .int .i64 0]) := by
    have e := Blk.new (w.alloc (.cells #[.string (bsL s), .string (bsL d), .int .i64 p, .int .i64 0, .int .i64 0] 24)) 24 #[.string ⟨#[]⟩, .string ⟨#[]⟩, .int .i64 0, .int .i64 0, .int .i64 0]
    show Blk _ _ _ _
    simpa using e
  have B0 : Hid (Below w.heap.size w ((w.alloc (.cells #[.string (bsL s), .string (bsL d), .int .i64 p, .int .i64 0, .int .i64 0] 24)).alloc (.cells #[.string ⟨#[]⟩, .string ⟨#[]⟩, .int .i64 0, .int .i64 0, .int .i64 0] 24))) := bel_trans (bel_alloc _ _) (bel_alloc _ _)
  by_cases hp : p = 6 ∨ p = 17
  rotate_left
  · have q1 : (p != 6) = true := by simp; omega
    have q2 : (p != 17) = true := by simp; omega
    have E : Hid (ansW s d p b = ⟨⟨s, d, p, 0, 0⟩, 0⟩) := w_none hp
    clear hp
    go_enter Try.func25, Try.ntmps25
    go_wp2_with fail
    go_returns
    exact ⟨s, d, p, 0, 0, 0, rfl, E.out, bel_trans (bel_alloc _ _) (bel_alloc _ _)⟩
  clear KB K0 B0
  rcases hp with rfl | rfl
  · have KB : Hid (Blk ((w.alloc (.cells #[.string (bsL s), .string (bsL d), .int .i64 6, .int .i64 0, .int .i64 0] 24)).alloc (.cells #[.string ⟨#[]⟩, .string ⟨#[]⟩, .int .i64 0, .int .i64 0, .int .i64 0] 24)) w.heap.size 24 #[.string (bsL s), .string (bsL d), .int .i64 6, .int .i64 0, .int .i64 0]) := (Blk.new _ _ _).alloc _
    have K0 : Hid (Blk ((w.alloc (.cells #[.string (bsL s), .string (bsL d), .int .i64 6, .int .i64 0, .int .i64 0] 24)).alloc (.cells #[.string ⟨#[]⟩, .string ⟨#[]⟩, .int .i64 0, .int .i64 0, .int .i64 0] 24)) (w.heap.size + 1) 24 #[.string ⟨#[]⟩, .string ⟨#[]⟩, .int .i64 0, .int .i64 0, .int .i64 0]) := by
      have e := Blk.new (w.alloc (.cells #[.string (bsL s), .string (bsL d), .int .i64 6, .int .i64 0, .int .i64 0] 24)) 24 #[.string ⟨#[]⟩, .string ⟨#[]⟩, .int .i64 0, .int .i64 0, .int .i64 0]
      show Blk _ _ _ _
      simpa using e
    have B0 : Hid (Below w.heap.size w ((w.alloc (.cells #[.string (bsL s), .string (bsL d), .int .i64 6, .int .i64 0, .int .i64 0] 24)).alloc (.cells #[.string ⟨#[]⟩, .string ⟨#[]⟩, .int .i64 0, .int .i64 0, .int .i64 0] 24))) := bel_trans (bel_alloc _ _) (bel_alloc _ _)
    go_enter Try.func25, Try.ntmps25
    go_wp2_with fail
    refine (port_take 6 b _ hl).mono ?_
    rintro e u1 ⟨rfl, b1⟩
    obtain ⟨SP, hSP⟩ : ∃ x, x = srcP 6 b := ⟨_, rfl⟩
    obtain ⟨DP, hDP⟩ : ∃ x, x = dstP 6 b := ⟨_, rfl⟩
    obtain ⟨EP, hEP⟩ : ∃ x, x = errP 6 b := ⟨_, rfl⟩
    obtain ⟨BP, hBP⟩ : ∃ x, x = bodyP 6 b := ⟨_, rfl⟩
    rw [← hSP, ← hDP, ← hEP, ← hBP]
    clear hBP
    have K1 : Hid (Blk u1 w.heap.size 24 #[.string (bsL s), .string (bsL d), .int .i64 6, .int .i64 0, .int .i64 0]) := KB.out.since b1
    have K2 : Hid (Blk u1 (w.heap.size + 1) 24 #[.string ⟨#[]⟩, .string ⟨#[]⟩, .int .i64 0, .int .i64 0, .int .i64 0]) := K0.out.since b1
    have B1 : Hid (Below w.heap.size w u1) := bel_trans B0.out b1
    clear b1
    have x0 : u1.cell? ⟨w.heap.size, 0, none⟩ = some (.string (bsL s)) := K1.out.cell 0
    have x1 : u1.cell? ⟨w.heap.size, 1, none⟩ = some (.string (bsL d)) := K1.out.cell 1
    have x2 : u1.cell? ⟨w.heap.size, 2, none⟩ = some (.int .i64 6) := K1.out.cell 2
    have x3 : u1.cell? ⟨w.heap.size, 3, none⟩ = some (.int .i64 0) := K1.out.cell 3
    have x4 : u1.cell? ⟨w.heap.size, 4, none⟩ = some (.int .i64 0) := K1.out.cell 4
    have y0 := K1.out.frozen 0
    have y1 := K1.out.frozen 1
    have y2 := K1.out.frozen 2
    have y3 := K1.out.frozen 3
    have y4 := K1.out.frozen 4
    have m0 : u1.cell? ⟨(w.heap.size + 1), 0, none⟩ = some (.string ⟨#[]⟩) := K2.out.cell 0
    have m1 : u1.cell? ⟨(w.heap.size + 1), 1, none⟩ = some (.string ⟨#[]⟩) := K2.out.cell 1
    have m2 : u1.cell? ⟨(w.heap.size + 1), 2, none⟩ = some (.int .i64 0) := K2.out.cell 2
    have m3 : u1.cell? ⟨(w.heap.size + 1), 3, none⟩ = some (.int .i64 0) := K2.out.cell 3
    have m4 : u1.cell? ⟨(w.heap.size + 1), 4, none⟩ = some (.int .i64 0) := K2.out.cell 4
    have n0 := K2.out.frozen 0
    have n1 := K2.out.frozen 1
    have n2 := K2.out.frozen 2
    have n3 := K2.out.frozen 3
    have n4 := K2.out.frozen 4
    by_cases hc : EP = 0
    rotate_left
    · have q0 : ((EP : Int) != 0) = true := by simp; omega
      have E : Hid (ansW s d 6 b = ⟨zeroFw, EP⟩) := by
        show ansW s d 6 b = _
        rw [w_err (by decide) (by rw [← hEP]; exact hc), hEP]
      clear hc hSP hDP hEP
      go_wp2_with fail
      refine bodyPost_ret (v := .tuple #[.agg #[.string ⟨#[]⟩, .string ⟨#[]⟩, .int .i64 0, .int .i64 0, .int .i64 0], .int .i64 (EP : Int)]) ?_ rfl (gave_err (E := EP) E.out (put5_below B1.out (by omega) _ _ _ _ _))
      have c5 := put5_blk (t := 24) K2.out (.string ⟨#[]⟩) (.string ⟨#[]⟩) (.int .i64 0) (.int .i64 0) (.int .i64 0)
      have c50 := c5.cell 0
      have c51 := c5.cell 1
      have c52 := c5.cell 2
      have c53 := c5.cell 3
      have c54 := c5.cell 4
      change (results _ _).run _ (put5 u1 (w.heap.size + 1) (.string ⟨#[]⟩) (.string ⟨#[]⟩) (.int .i64 0) (.int .i64 0) (.int .i64 0)) = .ok _ (put5 u1 (w.heap.size + 1) (.string ⟨#[]⟩) (.string ⟨#[]⟩) (.int .i64 0) (.int .i64 0) (.int .i64 0))
      generalize put5 u1 (w.heap.size + 1) (.string ⟨#[]⟩) (.string ⟨#[]⟩) (.int .i64 0) (.int .i64 0) (.int .i64 0) = W5 at c50 c51 c52 c53 c54
      simp [results, Try.results25, go_sem, c50, c51, c52, c53, c54]
    subst hc
    have E : Hid (ansW s d 6 b = ⟨⟨s, d, 6, SP, DP⟩, 0⟩) := by
      show ansW s d 6 b = _
      rw [w_ok (by decide) hEP.symm, hSP, hDP]
    clear hSP hDP hEP
    have KS : Hid (Blk ((u1.setCell ⟨w.heap.size, 3, none⟩ (.int .i64 (SP : Int))).setCell ⟨w.heap.size, 4, none⟩ (.int .i64 (DP : Int))) (w.heap.size + 1) 24 #[.string ⟨#[]⟩, .string ⟨#[]⟩, .int .i64 0, .int .i64 0, .int .i64 0]) := (K2.out.other (by show w.heap.size + 1 ≠ w.heap.size; omega) _).other (by show w.heap.size + 1 ≠ w.heap.size; omega) _
    have BS : Hid (Below w.heap.size w ((u1.setCell ⟨w.heap.size, 3, none⟩ (.int .i64 (SP : Int))).setCell ⟨w.heap.size, 4, none⟩ (.int .i64 (DP : Int)))) := (B1.out.setCell (p := ⟨w.heap.size, 3, none⟩) (Nat.le_refl _) _).setCell (p := ⟨w.heap.size, 4, none⟩) (Nat.le_refl _) _
    go_wp2_with fail
    refine bodyPost_ret (v := .tuple #[.agg #[.string (bsL s), .string (bsL d), .int .i64 6, .int .i64 (SP : Int), .int .i64 (DP : Int)], .int .i64 0]) ?_ rfl ⟨s, d, 6, SP, DP, 0, rfl, E.out, put5_below BS.out (by omega) _ _ _ _ _⟩
    have c5 := put5_blk (t := 24) KS.out (.string (bsL s)) (.string (bsL d)) (.int .i64 6) (.int .i64 (SP : Int)) (.int .i64 (DP : Int))
    have c50 := c5.cell 0
    have c51 := c5.cell 1
    have c52 := c5.cell 2
    have c53 := c5.cell 3
    have c54 := c5.cell 4
    change (results _ _).run _ (put5 ((u1.setCell ⟨w.heap.size, 3, none⟩ (.int .i64 (SP : Int))).setCell ⟨w.heap.size, 4, none⟩ (.int .i64 (DP : Int))) (w.heap.size + 1) (.string (bsL s)) (.string (bsL d)) (.int .i64 6) (.int .i64 (SP : Int)) (.int .i64 (DP : Int))) = .ok _ (put5 ((u1.setCell ⟨w.heap.size, 3, none⟩ (.int .i64 (SP : Int))).setCell ⟨w.heap.size, 4, none⟩ (.int .i64 (DP : Int))) (w.heap.size + 1) (.string (bsL s)) (.string (bsL d)) (.int .i64 6) (.int .i64 (SP : Int)) (.int .i64 (DP : Int)))
    generalize put5 ((u1.setCell ⟨w.heap.size, 3, none⟩ (.int .i64 (SP : Int))).setCell ⟨w.heap.size, 4, none⟩ (.int .i64 (DP : Int))) (w.heap.size + 1) (.string (bsL s)) (.string (bsL d)) (.int .i64 6) (.int .i64 (SP : Int)) (.int .i64 (DP : Int)) = W5 at c50 c51 c52 c53 c54
    simp [results, Try.results25, go_sem, c50, c51, c52, c53, c54]
  · have KB : Hid (Blk ((w.alloc (.cells #[.string (bsL s), .string (bsL d), .int .i64 17, .int .i64 0, .int .i64 0] 24)).alloc (.cells #[.string ⟨#[]⟩, .string ⟨#[]⟩, .int .i64 0, .int .i64 0, .int .i64 0] 24)) w.heap.size 24 #[.string (bsL s), .string (bsL d), .int .i64 17, .int .i64 0, .int .i64 0]) := (Blk.new _ _ _).alloc _
    have K0 : Hid (Blk ((w.alloc (.cells #[.string (bsL s), .string (bsL d), .int .i64 17, .int .i64 0, .int .i64 0] 24)).alloc (.cells #[.string ⟨#[]⟩, .string ⟨#[]⟩, .int .i64 0, .int .i64 0, .int .i64 0] 24)) (w.heap.size + 1) 24 #[.string ⟨#[]⟩, .string ⟨#[]⟩, .int .i64 0, .int .i64 0, .int .i64 0]) := by
      have e := Blk.new (w.alloc (.cells #[.string (bsL s), .string (bsL d), .int .i64 17, .int .i64 0, .int .i64 0] 24)) 24 #[.string ⟨#[]⟩, .string ⟨#[]⟩, .int .i64 0, .int .i64 0, .int .i64 0]
      show Blk _ _ _ _
      simpa using e
    have B0 : Hid (Below w.heap.size w ((w.alloc (.cells #[.string (bsL s), .string (bsL d), .int .i64 17, .int .i64 0, .int .i64 0] 24)).alloc (.cells #[.string ⟨#[]⟩, .string ⟨#[]⟩, .int .i64 0, .int .i64 0, .int .i64 0] 24))) := bel_trans (bel_alloc _ _) (bel_alloc _ _)
    go_enter Try.func25, Try.ntmps25
    go_wp2_with fail
    refine (port_take 17 b _ hl).mono ?_
    rintro e u1 ⟨rfl, b1⟩
    obtain ⟨SP, hSP⟩ : ∃ x, x = srcP 17 b := ⟨_, rfl⟩
    obtain ⟨DP, hDP⟩ : ∃ x, x = dstP 17 b := ⟨_, rfl⟩
    obtain ⟨EP, hEP⟩ : ∃ x, x = errP 17 b := ⟨_, rfl⟩
    obtain ⟨BP, hBP⟩ : ∃ x, x = bodyP 17 b := ⟨_, rfl⟩
    rw [← hSP, ← hDP, ← hEP, ← hBP]
    clear hBP
    have K1 : Hid (Blk u1 w.heap.size 24 #[.string (bsL s), .string (bsL d), .int .i64 17, .int .i64 0, .int .i64 0]) := KB.out.since b1
    have K2 : Hid (Blk u1 (w.heap.size + 1) 24 #[.string ⟨#[]⟩, .string ⟨#[]⟩, .int .i64 0, .int .i64 0, .int .i64 0]) := K0.out.since b1
    have B1 : Hid (Below w.heap.size w u1) := bel_trans B0.out b1
    clear b1
    have x0 : u1.cell? ⟨w.heap.size, 0, none⟩ = some (.string (bsL s)) := K1.out.cell 0
    have x1 : u1.cell? ⟨w.heap.size, 1, none⟩ = some (.string (bsL d)) := K1.out.cell 1
    have x2 : u1.cell? ⟨w.heap.size, 2, none⟩ = some (.int .i64 17) := K1.out.cell 2
    have x3 : u1.cell? ⟨w.heap.size, 3, none⟩ = some (.int .i64 0) := K1.out.cell 3
    have x4 : u1.cell? ⟨w.heap.size, 4, none⟩ = some (.int .i64 0) := K1.out.cell 4
    have y0 := K1.out.frozen 0
    have y1 := K1.out.frozen 1
    have y2 := K1.out.frozen 2
    have y3 := K1.out.frozen 3
    have y4 := K1.out.frozen 4
    have m0 : u1.cell? ⟨(w.heap.size + 1), 0, none⟩ = some (.string ⟨#[]⟩) := K2.out.cell 0
    have m1 : u1.cell? ⟨(w.heap.size + 1), 1, none⟩ = some (.string ⟨#[]⟩) := K2.out.cell 1
    have m2 : u1.cell? ⟨(w.heap.size + 1), 2, none⟩ = some (.int .i64 0) := K2.out.cell 2
    have m3 : u1.cell? ⟨(w.heap.size + 1), 3, none⟩ = some (.int .i64 0) := K2.out.cell 3
    have m4 : u1.cell? ⟨(w.heap.size + 1), 4, none⟩ = some (.int .i64 0) := K2.out.cell 4
    have n0 := K2.out.frozen 0
    have n1 := K2.out.frozen 1
    have n2 := K2.out.frozen 2
    have n3 := K2.out.frozen 3
    have n4 := K2.out.frozen 4
    by_cases hc : EP = 0
    rotate_left
    · have q0 : ((EP : Int) != 0) = true := by simp; omega
      have E : Hid (ansW s d 17 b = ⟨zeroFw, EP⟩) := by
        show ansW s d 17 b = _
        rw [w_err (by decide) (by rw [← hEP]; exact hc), hEP]
      clear hc hSP hDP hEP
      go_wp2_with fail
      refine bodyPost_ret (v := .tuple #[.agg #[.string ⟨#[]⟩, .string ⟨#[]⟩, .int .i64 0, .int .i64 0, .int .i64 0], .int .i64 (EP : Int)]) ?_ rfl (gave_err (E := EP) E.out (put5_below B1.out (by omega) _ _ _ _ _))
      have c5 := put5_blk (t := 24) K2.out (.string ⟨#[]⟩) (.string ⟨#[]⟩) (.int .i64 0) (.int .i64 0) (.int .i64 0)
      have c50 := c5.cell 0
      have c51 := c5.cell 1
      have c52 := c5.cell 2
      have c53 := c5.cell 3
      have c54 := c5.cell 4
      change (results _ _).run _ (put5 u1 (w.heap.size + 1) (.string ⟨#[]⟩) (.string ⟨#[]⟩) (.int .i64 0) (.int .i64 0) (.int .i64 0)) = .ok _ (put5 u1 (w.heap.size + 1) (.string ⟨#[]⟩) (.string ⟨#[]⟩) (.int .i64 0) (.int .i64 0) (.int .i64 0))
      generalize put5 u1 (w.heap.size + 1) (.string ⟨#[]⟩) (.string ⟨#[]⟩) (.int .i64 0) (.int .i64 0) (.int .i64 0) = W5 at c50 c51 c52 c53 c54
      simp [results, Try.results25, go_sem, c50, c51, c52, c53, c54]
    subst hc
    have E : Hid (ansW s d 17 b = ⟨⟨s, d, 17, SP, DP⟩, 0⟩) := by
      show ansW s d 17 b = _
      rw [w_ok (by decide) hEP.symm, hSP, hDP]
    clear hSP hDP hEP
    have KS : Hid (Blk ((u1.setCell ⟨w.heap.size, 3, none⟩ (.int .i64 (SP : Int))).setCell ⟨w.heap.size, 4, none⟩ (.int .i64 (DP : Int))) (w.heap.size + 1) 24 #[.string ⟨#[]⟩, .string ⟨#[]⟩, .int .i64 0, .int .i64 0, .int .i64 0]) := (K2.out.other (by show w.heap.size + 1 ≠ w.heap.size; omega) _).other (by show w.heap.size + 1 ≠ w.heap.size; omega) _
    have BS : Hid (Below w.heap.size w ((u1.setCell ⟨w.heap.size, 3, none⟩ (.int .i64 (SP : Int))).setCell ⟨w.heap.size, 4, none⟩ (.int .i64 (DP : Int)))) := (B1.out.setCell (p := ⟨w.heap.size, 3, none⟩) (Nat.le_refl _) _).setCell (p := ⟨w.heap.size, 4, none⟩) (Nat.le_refl _) _
    go_wp2_with fail
    refine bodyPost_ret (v := .tuple #[.agg #[.string (bsL s), .string (bsL d), .int .i64 17, .int .i64 (SP : Int), .int .i64 (DP : Int)], .int .i64 0]) ?_ rfl ⟨s, d, 17, SP, DP, 0, rfl, E.out, put5_below BS.out (by omega) _ _ _ _ _⟩
    have c5 := put5_blk (t := 24) KS.out (.string (bsL s)) (.string (bsL d)) (.int .i64 17) (.int .i64 (SP : Int)) (.int .i64 (DP : Int))
    have c50 := c5.cell 0
    have c51 := c5.cell 1
    have c52 := c5.cell 2
    have c53 := c5.cell 3
    have c54 := c5.cell 4
    change (results _ _).run _ (put5 ((u1.setCell ⟨w.heap.size, 3, none⟩ (.int .i64 (SP : Int))).setCell ⟨w.heap.size, 4, none⟩ (.int .i64 (DP : Int))) (w.heap.size + 1) (.string (bsL s)) (.string (bsL d)) (.int .i64 17) (.int .i64 (SP : Int)) (.int .i64 (DP : Int))) = .ok _ (put5 ((u1.setCell ⟨w.heap.size, 3, none⟩ (.int .i64 (SP : Int))).setCell ⟨w.heap.size, 4, none⟩ (.int .i64 (DP : Int))) (w.heap.size + 1) (.string (bsL s)) (.string (bsL d)) (.int .i64 17) (.int .i64 (SP : Int)) (.int .i64 (DP : Int)))
    generalize put5 ((u1.setCell ⟨w.heap.size, 3, none⟩ (.int .i64 (SP : Int))).setCell ⟨w.heap.size, 4, none⟩ (.int .i64 (DP : Int))) (w.heap.size + 1) (.string (bsL s)) (.string (bsL d)) (.int .i64 17) (.int .i64 (SP : Int)) (.int .i64 (DP : Int)) = W5 at c50 c51 c52 c53 c54
    simp [results, Try.results25, go_sem, c50, c51, c52, c53, c54]
set_option maxHeartbeats 6400000 in
theorem fl_extract (w : World) (l : List UInt8) (hl : l.length ≤ 1152921504606846976) : Calls Try.prog 10 #[.string (bsL l)] w (Gave w (ansOf l)) := by
  have B0 : Hid (Below w.heap.size w (w.alloc (.cells #[.string ⟨#[]⟩, .string ⟨#[]⟩, .int .i64 0, .int .i64 0, .int .i64 0] 24))) := bel_alloc _ _
  have K0 : Hid (Blk (w.alloc (.cells #[.string ⟨#[]⟩, .string ⟨#[]⟩, .int .i64 0, .int .i64 0, .int .i64 0] 24)) w.heap.size 24 #[.string ⟨#[]⟩, .string ⟨#[]⟩, .int .i64 0, .int .i64 0, .int .i64 0]) := Blk.new _ _ _
  by_cases h1 : 2048 < l.length
  · have E : Hid (ansOf l = ⟨zeroFw, 4⟩) := of_long h1
    go_enter Try.func10, Try.ntmps10
    go_wp2_with fail
    go_returns
    exact gave_err (E := 4) E.out B0.out
  have hm : l.length ≤ 2048 := by omega
  have HM : Hid (l.length ≤ 2048) := hm
  go_enter Try.func10, Try.ntmps10
  go_wp2_with fail
  refine (L5.etake_any _ l hl).mono ?_
  rintro e u1 ⟨x, rfl, hx, b1⟩
  obtain ⟨v, rfl, ht⟩ := hx
  obtain ⟨A, cap, rfl⟩ := ht.form
  clear ht
  obtain ⟨n, hn⟩ : ∃ n, n = (Et.frOf l).n := ⟨_, rfl⟩
  obtain ⟨dd, hdd⟩ : ∃ x, x = (Et.frOf l).d := ⟨_, rfl⟩
  obtain ⟨ds, hds⟩ : ∃ x, x = (Et.frOf l).s := ⟨_, rfl⟩
  obtain ⟨T, hT⟩ : ∃ x, x = (Et.frOf l).T := ⟨_, rfl⟩
  obtain ⟨r, hr⟩ : ∃ x, x = Et.restOf l := ⟨_, rfl⟩
  obtain ⟨c, hc⟩ : ∃ x, x = Et.takeE l := ⟨_, rfl⟩
  rw [← hn, ← hdd, ← hds, ← hT, ← hr, ← hc]
  have hrl : r.length ≤ 1152921504606846976 := by rw [hr]; exact Nat.le_trans (rest_len l) hl
  have HL : Hid (T = (Et.frOf l).T ∧ r = Et.restOf l ∧ c = Et.takeE l) := ⟨hT, hr, hc⟩
  clear hn hdd hds hT hr hc
  have K1 : Hid (Blk u1 w.heap.size 24 #[.string ⟨#[]⟩, .string ⟨#[]⟩, .int .i64 0, .int .i64 0, .int .i64 0]) := K0.out.since b1
  have B1 : Hid (Below w.heap.size w u1) := bel_trans B0.out b1
  have hsz : w.heap.size < u1.heap.size := K1.out.lt
  clear b1
  have K2 : Hid (Blk (u1.alloc (.cells #[.string (bsL dd), .string (bsL ds), .slice A n cap, .int .i64 T] 40)) w.heap.size 24 #[.string ⟨#[]⟩, .string ⟨#[]⟩, .int .i64 0, .int .i64 0, .int .i64 0]) := K1.out.alloc _
  have B2 : Hid (Below w.heap.size w (u1.alloc (.cells #[.string (bsL dd), .string (bsL ds), .slice A n cap, .int .i64 T] 40))) := bel_trans B1.out (bel_alloc _ _)
  have x0 : u1.cell? ⟨w.heap.size, 0, none⟩ = some (.string ⟨#[]⟩) := K1.out.cell 0
  have x1 : u1.cell? ⟨w.heap.size, 1, none⟩ = some (.string ⟨#[]⟩) := K1.out.cell 1
  have x2 : u1.cell? ⟨w.heap.size, 2, none⟩ = some (.int .i64 0) := K1.out.cell 2
  have x3 : u1.cell? ⟨w.heap.size, 3, none⟩ = some (.int .i64 0) := K1.out.cell 3
  have x4 : u1.cell? ⟨w.heap.size, 4, none⟩ = some (.int .i64 0) := K1.out.cell 4
  have y0 := K1.out.frozen 0
  have y1 := K1.out.frozen 1
  have y2 := K1.out.frozen 2
  have y3 := K1.out.frozen 3
  have y4 := K1.out.frozen 4
  by_cases h0 : c = 0
  rotate_left
  · have q0 : ((c : Int) != 0) = true := by simp; omega
    have E : Hid (ansOf l = ⟨zeroFw, c⟩) := by
      show ansOf l = _
      rw [of_eth hm (by rw [← HL.out.2.2]; exact h0), ← HL.out.2.2]
    clear h0
    go_wp2_with fail
    refine bodyPost_ret (v := .tuple #[.agg #[.string ⟨#[]⟩, .string ⟨#[]⟩, .int .i64 0, .int .i64 0, .int .i64 0], .int .i64 (c : Int)]) ?_ rfl (gave_err (E := c) E.out (bel_trans (put5_below B1.out (Nat.le_refl _) _ _ _ _ _) (bel_alloc _ _)))
    have c5 := (put5_blk (t := 24) K1.out (.string ⟨#[]⟩) (.string ⟨#[]⟩) (.int .i64 0) (.int .i64 0) (.int .i64 0)).alloc (.cells #[.string (bsL dd), .string (bsL ds), .slice A n cap, .int .i64 T] 40)
    have c50 := c5.cell 0
    have c51 := c5.cell 1
    have c52 := c5.cell 2
    have c53 := c5.cell 3
    have c54 := c5.cell 4
    change (results _ _).run _ ((put5 u1 w.heap.size (.string ⟨#[]⟩) (.string ⟨#[]⟩) (.int .i64 0) (.int .i64 0) (.int .i64 0)).alloc (.cells #[.string (bsL dd), .string (bsL ds), .slice A n cap, .int .i64 T] 40)) = .ok _ ((put5 u1 w.heap.size (.string ⟨#[]⟩) (.string ⟨#[]⟩) (.int .i64 0) (.int .i64 0) (.int .i64 0)).alloc (.cells #[.string (bsL dd), .string (bsL ds), .slice A n cap, .int .i64 T] 40))
    generalize (put5 u1 w.heap.size (.string ⟨#[]⟩) (.string ⟨#[]⟩) (.int .i64 0) (.int .i64 0) (.int .i64 0)).alloc (.cells #[.string (bsL dd), .string (bsL ds), .slice A n cap, .int .i64 T] 40) = W5 at c50 c51 c52 c53 c54
    simp [results, Try.results10, go_sem, c50, c51, c52, c53, c54]
  subst h0
  have EX : Hid (ansOf l = ansP (pkOf T r)) := by
    show ansOf l = _
    rw [of_pk hm HL.out.2.2.symm, HL.out.1, HL.out.2.1]
  clear HL
  go_wp2_with fail
  refine (fl_packet _ T r hrl).mono ?_
  rintro e u2 ⟨s, d, p, b, E, rfl, hk, b2⟩
  have HK : Hid (ansOf l = ansP ⟨E, s, d, p, b⟩) := by rw [← hk]; exact EX.out
  have hbl : Hid (b.length ≤ 1152921504606846976) := by
    have e : b = (pkOf T r).body := by rw [hk]
    show b.length ≤ _
    rw [e]
    exact Nat.le_trans (pk_len T r) hrl
  have K3 : Hid (Blk u2 w.heap.size 24 #[.string ⟨#[]⟩, .string ⟨#[]⟩, .int .i64 0, .int .i64 0, .int .i64 0]) := K2.out.since b2
  have B3 : Hid (Below w.heap.size w u2) := bel_trans B2.out b2
  have hsz2 : w.heap.size < u2.heap.size := K3.out.lt
  clear b2 hk EX
  have K4 : Hid (Blk (u2.alloc (.cells #[.string (bsL s), .string (bsL d), .int .i64 p, .int .i64 0, .int .i64 0] 24)) w.heap.size 24 #[.string ⟨#[]⟩, .string ⟨#[]⟩, .int .i64 0, .int .i64 0, .int .i64 0]) := K3.out.alloc _
  have B4 : Hid (Below w.heap.size w (u2.alloc (.cells #[.string (bsL s), .string (bsL d), .int .i64 p, .int .i64 0, .int .i64 0] 24))) := bel_trans B3.out (bel_alloc _ _)
  have a0 : u2.cell? ⟨w.heap.size, 0, none⟩ = some (.string ⟨#[]⟩) := K3.out.cell 0
  have a1 : u2.cell? ⟨w.heap.size, 1, none⟩ = some (.string ⟨#[]⟩) := K3.out.cell 1
  have a2 : u2.cell? ⟨w.heap.size, 2, none⟩ = some (.int .i64 0) := K3.out.cell 2
  have a3 : u2.cell? ⟨w.heap.size, 3, none⟩ = some (.int .i64 0) := K3.out.cell 3
  have a4 : u2.cell? ⟨w.heap.size, 4, none⟩ = some (.int .i64 0) := K3.out.cell 4
  have c0 := K3.out.frozen 0
  have c1 := K3.out.frozen 1
  have c2 := K3.out.frozen 2
  have c3 := K3.out.frozen 3
  have c4 := K3.out.frozen 4
  by_cases h0 : E = 0
  rotate_left
  · have q0 : ((E : Int) != 0) = true := by simp; omega
    have EE : Hid (ansOf l = ⟨zeroFw, E⟩) := by
      show ansOf l = _
      rw [HK.out, p_err h0]
    clear h0
    go_wp2_with fail
    refine bodyPost_ret (v := .tuple #[.agg #[.string ⟨#[]⟩, .string ⟨#[]⟩, .int .i64 0, .int .i64 0, .int .i64 0], .int .i64 (E : Int)]) ?_ rfl (gave_err (E := E) EE.out (bel_trans (put5_below B3.out (Nat.le_refl _) _ _ _ _ _) (bel_alloc _ _)))
    have c5 := (put5_blk (t := 24) K3.out (.string ⟨#[]⟩) (.string ⟨#[]⟩) (.int .i64 0) (.int .i64 0) (.int .i64 0)).alloc (.cells #[.string (bsL s), .string (bsL d), .int .i64 p, .int .i64 0, .int .i64 0] 24)
    have c50 := c5.cell 0
    have c51 := c5.cell 1
    have c52 := c5.cell 2
    have c53 := c5.cell 3
    have c54 := c5.cell 4
    change (results _ _).run _ ((put5 u2 w.heap.size (.string ⟨#[]⟩) (.string ⟨#[]⟩) (.int .i64 0) (.int .i64 0) (.int .i64 0)).alloc (.cells #[.string (bsL s), .string (bsL d), .int .i64 p, .int .i64 0, .int .i64 0] 24)) = .ok _ ((put5 u2 w.heap.size (.string ⟨#[]⟩) (.string ⟨#[]⟩) (.int .i64 0) (.int .i64 0) (.int .i64 0)).alloc (.cells #[.string (bsL s), .string (bsL d), .int .i64 p, .int .i64 0, .int .i64 0] 24))
    generalize (put5 u2 w.heap.size (.string ⟨#[]⟩) (.string ⟨#[]⟩) (.int .i64 0) (.int .i64 0) (.int .i64 0)).alloc (.cells #[.string (bsL s), .string (bsL d), .int .i64 p, .int .i64 0, .int .i64 0] 24) = W5 at c50 c51 c52 c53 c54
    simp [results, Try.results10, go_sem, c50, c51, c52, c53, c54]
  subst h0
  have EE : Hid (ansOf l = ansW s d p b) := by
    show ansOf l = _
    rw [HK.out, p_ok rfl]
  clear HK
  go_wp2_with fail
  refine (fl_ports _ s d p b hbl.out).mono ?_
  rintro e u3 ⟨s3, d3, p3, a3, b3, E3, rfl, hk, c3⟩
  have EF : Hid (ansOf l = ⟨⟨s3, d3, p3, a3, b3⟩, E3⟩) := by rw [← hk]; exact EE.out
  have K5 : Hid (Blk u3 w.heap.size 24 #[.string ⟨#[]⟩, .string ⟨#[]⟩, .int .i64 0, .int .i64 0, .int .i64 0]) := K4.out.since c3
  have B5 : Hid (Below w.heap.size w u3) := bel_trans B4.out c3
  clear c3 hk EE
  have m0 : u3.cell? ⟨w.heap.size, 0, none⟩ = some (.string ⟨#[]⟩) := K5.out.cell 0
  have m1 : u3.cell? ⟨w.heap.size, 1, none⟩ = some (.string ⟨#[]⟩) := K5.out.cell 1
  have m2 : u3.cell? ⟨w.heap.size, 2, none⟩ = some (.int .i64 0) := K5.out.cell 2
  have m3 : u3.cell? ⟨w.heap.size, 3, none⟩ = some (.int .i64 0) := K5.out.cell 3
  have m4 : u3.cell? ⟨w.heap.size, 4, none⟩ = some (.int .i64 0) := K5.out.cell 4
  have n0 := K5.out.frozen 0
  have n1 := K5.out.frozen 1
  have n2 := K5.out.frozen 2
  have n3 := K5.out.frozen 3
  have n4 := K5.out.frozen 4
  go_wp2_with fail
  refine bodyPost_ret (v := .tuple #[.agg #[.string (bsL s3), .string (bsL d3), .int .i64 p3, .int .i64 (a3 : Int), .int .i64 (b3 : Int)], .int .i64 (E3 : Int)]) ?_ rfl ⟨s3, d3, p3, a3, b3, E3, rfl, EF.out, put5_below B5.out (Nat.le_refl _) _ _ _ _ _⟩
  have c5 := put5_blk (t := 24) K5.out (.string (bsL s3)) (.string (bsL d3)) (.int .i64 p3) (.int .i64 (a3 : Int)) (.int .i64 (b3 : Int))
  have c50 := c5.cell 0
  have c51 := c5.cell 1
  have c52 := c5.cell 2
  have c53 := c5.cell 3
  have c54 := c5.cell 4
  change (results _ _).run _ (put5 u3 w.heap.size (.string (bsL s3)) (.string (bsL d3)) (.int .i64 p3) (.int .i64 (a3 : Int)) (.int .i64 (b3 : Int))) = .ok _ (put5 u3 w.heap.size (.string (bsL s3)) (.string (bsL d3)) (.int .i64 p3) (.int .i64 (a3 : Int)) (.int .i64 (b3 : Int)))
  generalize put5 u3 w.heap.size (.string (bsL s3)) (.string (bsL d3)) (.int .i64 p3) (.int .i64 (a3 : Int)) (.int .i64 (b3 : Int)) = W5 at c50 c51 c52 c53 c54
  simp [results, Try.results10, go_sem, c50, c51, c52, c53, c54]
end Go.Proofs.Yticopigpgaomjaa
