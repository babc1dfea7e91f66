/-
  The document's Extract of layer 9 (flow): frames of packets of version 4.
-/
import Derived.Test.YticopigpgaomjaaFlowTake
import Derived.Test.YticopigpgaomjaaEthRTake
import Derived.Test.YticopigpgaomjaaIp4RTake
import Derived.Test.YticopigpgaomjaaPortRTake
import Derived.Test.YticopigpgaomjaaBytesKit
import Derived.Deep.Cut
import Derived.Deep.CutRange
namespace Go.Proofs.Yticopigpgaomjaa
open Go.RowKit Oc Pt Fl Go.Deep
set_option linter.unusedVariables false

theorem made_ten : madeCells #[.int .u8 0] 10 = #[.int .u8 0, .int .u8 0, .int .u8 0, .int .u8 0, .int .u8 0, .int .u8 0, .int .u8 0, .int .u8 0, .int .u8 0, .int .u8 0] := by kernel_rfl
set_option maxRecDepth 8000 in
set_option maxHeartbeats 12800000 in
theorem fl_rx_four (w : World) (l : List UInt8) (hl : l.length ≤ 1152921504606846976) (hm : l.length ≤ 2048) (hN : Et.takeE l = 0 ∧ (Et.frOf l).T = 2048) : Calls Try.prog 11 #[.string (bsL l)] w (Gave w (ansOf l)) := by
  have B0 : Hid (Below w.heap.size w (w.alloc (.cells #[.string ⟨#[]⟩, .string ⟨#[]⟩, .int .i64 0, .int .i64 0, .int .i64 0] 24))) := bel_alloc _ _
  have K0 : Hid (Blk (w.alloc (.cells #[.string ⟨#[]⟩, .string ⟨#[]⟩, .int .i64 0, .int .i64 0, .int .i64 0] 24)) w.heap.size 24 #[.string ⟨#[]⟩, .string ⟨#[]⟩, .int .i64 0, .int .i64 0, .int .i64 0]) := Blk.new _ _ _
  have h1 : ¬ 2048 < l.length := by omega
  have HN : Hid (_) := hN
  clear hN
  go_enter Try.func11, Try.ntmps11
  go_wp2_with fail
  refine (L5.rtake_any _ l hl).mono ?_
  rintro e u1 ⟨x, rfl, hx, b1⟩
  obtain ⟨v, rfl, ht⟩ := hx
  obtain ⟨A, cap, rfl⟩ := ht.form
  clear ht
  obtain ⟨n, hn⟩ : ∃ n, n = (Et.frOf l).n := ⟨_, rfl⟩
  obtain ⟨dd, hdd⟩ : ∃ x, x = (Et.frOf l).d := ⟨_, rfl⟩
  obtain ⟨ds, hds⟩ : ∃ x, x = (Et.frOf l).s := ⟨_, rfl⟩
  obtain ⟨TT, hT⟩ : ∃ x, x = (Et.frOf l).T := ⟨_, rfl⟩
  obtain ⟨r, hr⟩ : ∃ x, x = Et.restOf l := ⟨_, rfl⟩
  obtain ⟨c, hc⟩ : ∃ x, x = Et.takeE l := ⟨_, rfl⟩
  rw [← hn, ← hdd, ← hds, ← hT, ← hr, ← hc]
  have hrl : r.length ≤ 1152921504606846976 := by rw [hr]; exact Nat.le_trans (rest_len l) hl
  have HL : Hid (TT = (Et.frOf l).T ∧ r = Et.restOf l ∧ c = Et.takeE l) := ⟨hT, hr, hc⟩
  clear hn hdd hds hT hr hc
  have K1 : Hid (Blk u1 w.heap.size 24 #[.string ⟨#[]⟩, .string ⟨#[]⟩, .int .i64 0, .int .i64 0, .int .i64 0]) := K0.out.since b1
  have B1 : Hid (Below w.heap.size w u1) := bel_trans B0.out b1
  have hsz : w.heap.size < u1.heap.size := K1.out.lt
  clear b1
  have x0 : u1.cell? ⟨w.heap.size, 0, none⟩ = some (.string ⟨#[]⟩) := K1.out.cell 0
  have x1 : u1.cell? ⟨w.heap.size, 1, none⟩ = some (.string ⟨#[]⟩) := K1.out.cell 1
  have x2 : u1.cell? ⟨w.heap.size, 2, none⟩ = some (.int .i64 0) := K1.out.cell 2
  have x3 : u1.cell? ⟨w.heap.size, 3, none⟩ = some (.int .i64 0) := K1.out.cell 3
  have x4 : u1.cell? ⟨w.heap.size, 4, none⟩ = some (.int .i64 0) := K1.out.cell 4
  have y0 := K1.out.frozen 0
  have y1 := K1.out.frozen 1
  have y2 := K1.out.frozen 2
  have y3 := K1.out.frozen 3
  have y4 := K1.out.frozen 4
  have h0 : c = 0 := by rw [HL.out.2.2]; exact HN.out.1
  have h2 : TT = 2048 := by rw [HL.out.1]; exact HN.out.2
  clear HN
  subst h0
  have EX : Hid (ansOf l = ansP (pkOf TT r)) := by
    show ansOf l = _
    rw [of_pk hm HL.out.2.2.symm, HL.out.1, HL.out.2.1]
  clear HL
  have K2 : Hid (Blk ((u1.alloc (.cells #[.string (bsL dd), .string (bsL ds), .slice A n cap, .int .i64 TT] 58)).alloc (.cells #[.string ⟨#[]⟩, .string ⟨#[]⟩, .int .i64 0, .int .i64 0, .int .i64 0] 24)) w.heap.size 24 #[.string ⟨#[]⟩, .string ⟨#[]⟩, .int .i64 0, .int .i64 0, .int .i64 0]) := (K1.out.alloc _).alloc _
  have B2 : Hid (Below w.heap.size w ((u1.alloc (.cells #[.string (bsL dd), .string (bsL ds), .slice A n cap, .int .i64 TT] 58)).alloc (.cells #[.string ⟨#[]⟩, .string ⟨#[]⟩, .int .i64 0, .int .i64 0, .int .i64 0] 24))) := bel_trans (bel_trans B1.out (bel_alloc _ _)) (bel_alloc _ _)
  have KF : Hid (Blk ((u1.alloc (.cells #[.string (bsL dd), .string (bsL ds), .slice A n cap, .int .i64 TT] 58)).alloc (.cells #[.string ⟨#[]⟩, .string ⟨#[]⟩, .int .i64 0, .int .i64 0, .int .i64 0] 24)) (u1.heap.size + 1) 24 #[.string ⟨#[]⟩, .string ⟨#[]⟩, .int .i64 0, .int .i64 0, .int .i64 0]) := by
    have e := Blk.new (u1.alloc (.cells #[.string (bsL dd), .string (bsL ds), .slice A n cap, .int .i64 TT] 58)) 24 #[.string ⟨#[]⟩, .string ⟨#[]⟩, .int .i64 0, .int .i64 0, .int .i64 0]
    show Blk _ _ _ _
    simpa using e
  subst h2
  have EX4 : Hid (ansOf l = ansP (pk4 r)) := by rw [← of_four]; exact EX.out
  clear EX
  go_wp2_with fail
  refine (L6.prtake_any _ r hrl).mono ?_
  rintro e u2 ⟨t, i, f, O, h, p, s, d, q, b, c, rfl, hx, b2⟩
  have K3 : Hid (Below w.heap.size w u2 ∧ Blk u2 w.heap.size 24 #[.string ⟨#[]⟩, .string ⟨#[]⟩, .int .i64 0, .int .i64 0, .int .i64 0] ∧ Blk u2 (u1.heap.size + 1) 24 #[.string ⟨#[]⟩, .string ⟨#[]⟩, .int .i64 0, .int .i64 0, .int .i64 0]) := ⟨bel_trans B2.out b2, K2.out.since b2, KF.out.since b2⟩
  have hs3 : w.heap.size < u2.heap.size := K3.out.2.1.lt
  have hs4 : u1.heap.size + 1 < u2.heap.size := K3.out.2.2.lt
  have hgf : w.heap.size < u1.heap.size + 1 := by omega
  clear b2 K2 B2 KF x0 x1 x2 x3 x4 y0 y1 y2 y3 y4
  generalize u1.heap.size + 1 = gf at K3 hs4 hgf ⊢
  by_cases hc : c = 0
  rotate_left
  · have q0 : ((c : Int) != 0) = true := by simp; omega
    have E : Hid (ansOf l = ⟨zeroFw, c⟩) := by
      rw [EX4.out, four_err (by rw [hx.2.2]; exact hc), hx.2.2]
      exact p_err hc
    clear hx hc
    have x0 : u2.cell? ⟨w.heap.size, 0, none⟩ = some (.string ⟨#[]⟩) := K3.out.2.1.cell 0
    have x1 : u2.cell? ⟨w.heap.size, 1, none⟩ = some (.string ⟨#[]⟩) := K3.out.2.1.cell 1
    have x2 : u2.cell? ⟨w.heap.size, 2, none⟩ = some (.int .i64 0) := K3.out.2.1.cell 2
    have x3 : u2.cell? ⟨w.heap.size, 3, none⟩ = some (.int .i64 0) := K3.out.2.1.cell 3
    have x4 : u2.cell? ⟨w.heap.size, 4, none⟩ = some (.int .i64 0) := K3.out.2.1.cell 4
    have y0 := K3.out.2.1.frozen 0
    have y1 := K3.out.2.1.frozen 1
    have y2 := K3.out.2.1.frozen 2
    have y3 := K3.out.2.1.frozen 3
    have y4 := K3.out.2.1.frozen 4
    have f0 : u2.cell? ⟨gf, 0, none⟩ = some (.string ⟨#[]⟩) := K3.out.2.2.cell 0
    have f1 : u2.cell? ⟨gf, 1, none⟩ = some (.string ⟨#[]⟩) := K3.out.2.2.cell 1
    have f2 : u2.cell? ⟨gf, 2, none⟩ = some (.int .i64 0) := K3.out.2.2.cell 2
    have f3 : u2.cell? ⟨gf, 3, none⟩ = some (.int .i64 0) := K3.out.2.2.cell 3
    have f4 : u2.cell? ⟨gf, 4, none⟩ = some (.int .i64 0) := K3.out.2.2.cell 4
    go_wp2_with fail
    refine bodyPost_ret (v := .tuple #[.agg #[.string ⟨#[]⟩, .string ⟨#[]⟩, .int .i64 0, .int .i64 0, .int .i64 0], .int .i64 (c : Int)]) ?_ rfl (gave_err (E := c) E.out (bel_trans (put5_below K3.out.1 (Nat.le_refl _) _ _ _ _ _) (bel_alloc _ _)))
    have c5 := (put5_blk (t := 24) K3.out.2.1 (.string ⟨#[]⟩) (.string ⟨#[]⟩) (.int .i64 0) (.int .i64 0) (.int .i64 0)).alloc (.cells #[.int .i64 t, .int .i64 i, .int .i64 f, .int .i64 O, .int .i64 h, .int .i64 p, .string (bsL s), .string (bsL d), .string (bsL q)] 61)
    have c50 := c5.cell 0
    have c51 := c5.cell 1
    have c52 := c5.cell 2
    have c53 := c5.cell 3
    have c54 := c5.cell 4
    change (results _ _).run _ ((put5 u2 w.heap.size (.string ⟨#[]⟩) (.string ⟨#[]⟩) (.int .i64 0) (.int .i64 0) (.int .i64 0)).alloc (.cells #[.int .i64 t, .int .i64 i, .int .i64 f, .int .i64 O, .int .i64 h, .int .i64 p, .string (bsL s), .string (bsL d), .string (bsL q)] 61)) = .ok _ ((put5 u2 w.heap.size (.string ⟨#[]⟩) (.string ⟨#[]⟩) (.int .i64 0) (.int .i64 0) (.int .i64 0)).alloc (.cells #[.int .i64 t, .int .i64 i, .int .i64 f, .int .i64 O, .int .i64 h, .int .i64 p, .string (bsL s), .string (bsL d), .string (bsL q)] 61))
    generalize (put5 u2 w.heap.size (.string ⟨#[]⟩) (.string ⟨#[]⟩) (.int .i64 0) (.int .i64 0) (.int .i64 0)).alloc (.cells #[.int .i64 t, .int .i64 i, .int .i64 f, .int .i64 O, .int .i64 h, .int .i64 p, .string (bsL s), .string (bsL d), .string (bsL q)] 61) = W5 at c50 c51 c52 c53 c54
    simp [results, Try.results11, go_sem, c50, c51, c52, c53, c54]
  subst hc
  have OP : 0 ≤ O := by
    obtain ⟨_, _, _, _, _, r6, _⟩ := Ip4.fine_right ((Ip4.fine_iff r).1 hx.2.2)
    rw [hx.1] at r6
    exact r6.1
  by_cases hO : 0 < O
  · have E : Hid (ansOf l = ⟨zeroFw, 14⟩) := by
      rw [EX4.out, four_piece hx.2.2 (by rw [hx.1]; show O ≠ 0; omega)]
      exact p_err (by decide)
    clear hx
    have x0 : u2.cell? ⟨w.heap.size, 0, none⟩ = some (.string ⟨#[]⟩) := K3.out.2.1.cell 0
    have x1 : u2.cell? ⟨w.heap.size, 1, none⟩ = some (.string ⟨#[]⟩) := K3.out.2.1.cell 1
    have x2 : u2.cell? ⟨w.heap.size, 2, none⟩ = some (.int .i64 0) := K3.out.2.1.cell 2
    have x3 : u2.cell? ⟨w.heap.size, 3, none⟩ = some (.int .i64 0) := K3.out.2.1.cell 3
    have x4 : u2.cell? ⟨w.heap.size, 4, none⟩ = some (.int .i64 0) := K3.out.2.1.cell 4
    have y0 := K3.out.2.1.frozen 0
    have y1 := K3.out.2.1.frozen 1
    have y2 := K3.out.2.1.frozen 2
    have y3 := K3.out.2.1.frozen 3
    have y4 := K3.out.2.1.frozen 4
    have f0 : u2.cell? ⟨gf, 0, none⟩ = some (.string ⟨#[]⟩) := K3.out.2.2.cell 0
    have f1 : u2.cell? ⟨gf, 1, none⟩ = some (.string ⟨#[]⟩) := K3.out.2.2.cell 1
    have f2 : u2.cell? ⟨gf, 2, none⟩ = some (.int .i64 0) := K3.out.2.2.cell 2
    have f3 : u2.cell? ⟨gf, 3, none⟩ = some (.int .i64 0) := K3.out.2.2.cell 3
    have f4 : u2.cell? ⟨gf, 4, none⟩ = some (.int .i64 0) := K3.out.2.2.cell 4
    go_wp2_with fail
    refine bodyPost_ret (v := .tuple #[.agg #[.string ⟨#[]⟩, .string ⟨#[]⟩, .int .i64 0, .int .i64 0, .int .i64 0], .int .i64 14]) ?_ rfl (gave_err (E := 14) E.out (bel_trans (put5_below K3.out.1 (Nat.le_refl _) _ _ _ _ _) (bel_alloc _ _)))
    have c5 := (put5_blk (t := 24) K3.out.2.1 (.string ⟨#[]⟩) (.string ⟨#[]⟩) (.int .i64 0) (.int .i64 0) (.int .i64 0)).alloc (.cells #[.int .i64 t, .int .i64 i, .int .i64 f, .int .i64 O, .int .i64 h, .int .i64 p, .string (bsL s), .string (bsL d), .string (bsL q)] 61)
    have c50 := c5.cell 0
    have c51 := c5.cell 1
    have c52 := c5.cell 2
    have c53 := c5.cell 3
    have c54 := c5.cell 4
    change (results _ _).run _ ((put5 u2 w.heap.size (.string ⟨#[]⟩) (.string ⟨#[]⟩) (.int .i64 0) (.int .i64 0) (.int .i64 0)).alloc (.cells #[.int .i64 t, .int .i64 i, .int .i64 f, .int .i64 O, .int .i64 h, .int .i64 p, .string (bsL s), .string (bsL d), .string (bsL q)] 61)) = .ok _ ((put5 u2 w.heap.size (.string ⟨#[]⟩) (.string ⟨#[]⟩) (.int .i64 0) (.int .i64 0) (.int .i64 0)).alloc (.cells #[.int .i64 t, .int .i64 i, .int .i64 f, .int .i64 O, .int .i64 h, .int .i64 p, .string (bsL s), .string (bsL d), .string (bsL q)] 61))
    generalize (put5 u2 w.heap.size (.string ⟨#[]⟩) (.string ⟨#[]⟩) (.int .i64 0) (.int .i64 0) (.int .i64 0)).alloc (.cells #[.int .i64 t, .int .i64 i, .int .i64 f, .int .i64 O, .int .i64 h, .int .i64 p, .string (bsL s), .string (bsL d), .string (bsL q)] 61) = W5 at c50 c51 c52 c53 c54
    simp [results, Try.results11, go_sem, c50, c51, c52, c53, c54]
  have O0 : O = 0 := by omega
  clear OP hO
  subst O0
  have E : Hid (ansOf l = ansW (aheadL ++ s) (aheadL ++ d) p b) := by
    rw [EX4.out, four_ok hx.2.2 (by rw [hx.1]), hx.1, hx.2.1]
    exact p_ok rfl
  have R : Hid (s.length = 4 ∧ d.length = 4) := by
    obtain ⟨_, _, _, _, _, _, r7, r8, _⟩ := Ip4.fine_right ((Ip4.fine_iff r).1 hx.2.2)
    rw [hx.1] at r7 r8
    exact ⟨r7, r8⟩
  have hbl : Hid (b.length ≤ 1152921504606846976) := by
    show b.length ≤ _
    rw [← hx.2.1]
    exact Nat.le_trans (body4_len r) hrl
  have r7 := R.out.1
  have r8 := R.out.2
  clear hx EX4
  have x0 : u2.cell? ⟨w.heap.size, 0, none⟩ = some (.string ⟨#[]⟩) := K3.out.2.1.cell 0
  have x1 : u2.cell? ⟨w.heap.size, 1, none⟩ = some (.string ⟨#[]⟩) := K3.out.2.1.cell 1
  have x2 : u2.cell? ⟨w.heap.size, 2, none⟩ = some (.int .i64 0) := K3.out.2.1.cell 2
  have x3 : u2.cell? ⟨w.heap.size, 3, none⟩ = some (.int .i64 0) := K3.out.2.1.cell 3
  have x4 : u2.cell? ⟨w.heap.size, 4, none⟩ = some (.int .i64 0) := K3.out.2.1.cell 4
  have y0 := K3.out.2.1.frozen 0
  have y1 := K3.out.2.1.frozen 1
  have y2 := K3.out.2.1.frozen 2
  have y3 := K3.out.2.1.frozen 3
  have y4 := K3.out.2.1.frozen 4
  have f0 : u2.cell? ⟨gf, 0, none⟩ = some (.string ⟨#[]⟩) := K3.out.2.2.cell 0
  have f1 : u2.cell? ⟨gf, 1, none⟩ = some (.string ⟨#[]⟩) := K3.out.2.2.cell 1
  have f2 : u2.cell? ⟨gf, 2, none⟩ = some (.int .i64 0) := K3.out.2.2.cell 2
  have f3 : u2.cell? ⟨gf, 3, none⟩ = some (.int .i64 0) := K3.out.2.2.cell 3
  have f4 : u2.cell? ⟨gf, 4, none⟩ = some (.int .i64 0) := K3.out.2.2.cell 4
  go_upto_region 16 with fail
  have HV : Hid (Below w.heap.size w (u2.alloc (.cells #[.int .i64 t, .int .i64 i, .int .i64 f, .int .i64 0, .int .i64 h, .int .i64 p, .string (bsL s), .string (bsL d), .string (bsL q)] 61)) ∧ Blk (u2.alloc (.cells #[.int .i64 t, .int .i64 i, .int .i64 f, .int .i64 0, .int .i64 h, .int .i64 p, .string (bsL s), .string (bsL d), .string (bsL q)] 61)) w.heap.size 24 #[.string ⟨#[]⟩, .string ⟨#[]⟩, .int .i64 0, .int .i64 0, .int .i64 0] ∧ Blk (u2.alloc (.cells #[.int .i64 t, .int .i64 i, .int .i64 f, .int .i64 0, .int .i64 h, .int .i64 p, .string (bsL s), .string (bsL d), .string (bsL q)] 61)) gf 24 #[.string ⟨#[]⟩, .string ⟨#[]⟩, .int .i64 0, .int .i64 0, .int .i64 0] ∧ Blk (u2.alloc (.cells #[.int .i64 t, .int .i64 i, .int .i64 f, .int .i64 0, .int .i64 h, .int .i64 p, .string (bsL s), .string (bsL d), .string (bsL q)] 61)) u2.heap.size 61 #[.int .i64 t, .int .i64 i, .int .i64 f, .int .i64 0, .int .i64 h, .int .i64 p, .string (bsL s), .string (bsL d), .string (bsL q)]) := ⟨bel_trans K3.out.1 (bel_alloc _ _), K3.out.2.1.alloc _, K3.out.2.2.alloc _, Blk.new _ _ _⟩
  have hgx : gf < u2.heap.size := hs4
  generalize u2.alloc (.cells #[.int .i64 t, .int .i64 i, .int .i64 f, .int .i64 0, .int .i64 h, .int .i64 p, .string (bsL s), .string (bsL d), .string (bsL q)] 61) = v2 at HV ⊢
  generalize u2.heap.size = gx at HV hgx ⊢
  clear K3 hs3 hs4 x0 x1 x2 x3 x4 y0 y1 y2 y3 y4 f0 f1 f2 f3 f4
  go_cut [12] from 54 (fun s12 wx => s12 = .string (bsL aheadL) ∧ Below w.heap.size w wx ∧ Blk wx w.heap.size 24 #[.string ⟨#[]⟩, .string ⟨#[]⟩, .int .i64 0, .int .i64 0, .int .i64 0] ∧ Blk wx gf 24 #[.string ⟨#[]⟩, .string ⟨#[]⟩, .int .i64 0, .int .i64 0, .int .i64 0] ∧ Blk wx gx 61 #[.int .i64 t, .int .i64 i, .int .i64 f, .int .i64 0, .int .i64 h, .int .i64 p, .string (bsL s), .string (bsL d), .string (bsL q)])
  case first =>
    refine wp_region_noPanic ?_
    have HB : Hid (Below w.heap.size w v2.drew ∧ Blk v2.drew w.heap.size 24 #[.string ⟨#[]⟩, .string ⟨#[]⟩, .int .i64 0, .int .i64 0, .int .i64 0] ∧ Blk v2.drew gf 24 #[.string ⟨#[]⟩, .string ⟨#[]⟩, .int .i64 0, .int .i64 0, .int .i64 0] ∧ Blk v2.drew gx 61 #[.int .i64 t, .int .i64 i, .int .i64 f, .int .i64 0, .int .i64 h, .int .i64 p, .string (bsL s), .string (bsL d), .string (bsL q)]) := ⟨HV.out.1.drew, HV.out.2.1.drew, HV.out.2.2.1.drew, HV.out.2.2.2.drew⟩
    refine wp_region_held_drew (S := fun _ => True) (by kernel_rfl) trivial (fun hHeld => ?_)
    clear hHeld
    generalize v2.drew = v0_ at HB ⊢
    refine wpAnyH_ready (rs := [0, 2]) (by kernel_rfl) (by simp) ?_
    refine AllReadyH.cons rfl (fun K hK => ?_) ?_
    · have mk : (Instr.makeSlice 51 (.int .i64 10) (.int .i64 10)).run Try.prog v0_ = .ok (.slice (some ⟨v0_.heap.size, 0, none⟩) 10 10) (v0_.alloc (.cells #[.int .u8 0, .int .u8 0, .int .u8 0, .int .u8 0, .int .u8 0, .int .u8 0, .int .u8 0, .int .u8 0, .int .u8 0, .int .u8 0] 5)) := by rw [← made_ten]; exact run_make_full (P := Try.prog) 51 5 (.int .u8 0) 1 Try.underlying51 info5 rfl .i64 .i64 10 (by omega) (by omega) v0_
      have nb := Blk.new v0_ 5 #[.int .u8 0, .int .u8 0, .int .u8 0, .int .u8 0, .int .u8 0, .int .u8 0, .int .u8 0, .int .u8 0, .int .u8 0, .int .u8 0]
      have nh : Below w.heap.size w (v0_.alloc (.cells #[.int .u8 0, .int .u8 0, .int .u8 0, .int .u8 0, .int .u8 0, .int .u8 0, .int .u8 0, .int .u8 0, .int .u8 0, .int .u8 0] 5)) ∧ Blk (v0_.alloc (.cells #[.int .u8 0, .int .u8 0, .int .u8 0, .int .u8 0, .int .u8 0, .int .u8 0, .int .u8 0, .int .u8 0, .int .u8 0, .int .u8 0] 5)) w.heap.size 24 #[.string ⟨#[]⟩, .string ⟨#[]⟩, .int .i64 0, .int .i64 0, .int .i64 0] ∧ Blk (v0_.alloc (.cells #[.int .u8 0, .int .u8 0, .int .u8 0, .int .u8 0, .int .u8 0, .int .u8 0, .int .u8 0, .int .u8 0, .int .u8 0, .int .u8 0] 5)) gf 24 #[.string ⟨#[]⟩, .string ⟨#[]⟩, .int .i64 0, .int .i64 0, .int .i64 0] ∧ Blk (v0_.alloc (.cells #[.int .u8 0, .int .u8 0, .int .u8 0, .int .u8 0, .int .u8 0, .int .u8 0, .int .u8 0, .int .u8 0, .int .u8 0, .int .u8 0] 5)) gx 61 #[.int .i64 t, .int .i64 i, .int .i64 f, .int .i64 0, .int .i64 h, .int .i64 p, .string (bsL s), .string (bsL d), .string (bsL q)] := ⟨bel_trans HB.out.1 (bel_alloc _ _), HB.out.2.1.alloc _, HB.out.2.2.1.alloc _, HB.out.2.2.2.alloc _⟩
      go_simp
      clear mk
      generalize v0_.alloc (.cells #[.int .u8 0, .int .u8 0, .int .u8 0, .int .u8 0, .int .u8 0, .int .u8 0, .int .u8 0, .int .u8 0, .int .u8 0, .int .u8 0] 5) = v1_ at nb nh ⊢
      generalize v0_.heap.size = g1_ at nb ⊢
      have H1 : Hid (Below w.heap.size w v1_ ∧ Blk v1_ w.heap.size 24 #[.string ⟨#[]⟩, .string ⟨#[]⟩, .int .i64 0, .int .i64 0, .int .i64 0] ∧ Blk v1_ gf 24 #[.string ⟨#[]⟩, .string ⟨#[]⟩, .int .i64 0, .int .i64 0, .int .i64 0] ∧ Blk v1_ gx 61 #[.int .i64 t, .int .i64 i, .int .i64 f, .int .i64 0, .int .i64 h, .int .i64 p, .string (bsL s), .string (bsL d), .string (bsL q)]) := nh
      have KN1 : Hid (Blk v1_ g1_ 5 #[.int .u8 0, .int .u8 0, .int .u8 0, .int .u8 0, .int .u8 0, .int .u8 0, .int .u8 0, .int .u8 0, .int .u8 0, .int .u8 0]) := nb
      clear nh nb
      refine hK.out _ _ trivial (fun hHeld => ?_)
      clear hK K hHeld
      refine wpAnyH_ready (rs := [1, 2]) (by kernel_rfl) (by simp) ?_
      refine AllReadyH.cons rfl (fun K hK => ?_) ?_
      · have cv : (convert 51 9 (.slice (some ⟨g1_, 0, none⟩) 10 10)).run Try.prog v1_ = .ok (.string (bsL [0, 0, 0, 0, 0, 0, 0, 0, 0, 0])) v1_ := conv_blk [0, 0, 0, 0, 0, 0, 0, 0, 0, 0] KN1.out
        go_simp
        clear cv
        refine hK.out _ _ trivial (fun hHeld => ?_)
        clear hK K hHeld
        refine wpAnyH_ready (rs := [2]) (by kernel_rfl) (by simp) ?_
        refine AllReadyH.cons rfl (fun K hK => ?_) ?_
        · have nb := Blk.new v1_ 5 #[.int .u8 255, .int .u8 255]
          have nh : Below w.heap.size w (v1_.alloc (.cells #[.int .u8 255, .int .u8 255] 5)) ∧ Blk (v1_.alloc (.cells #[.int .u8 255, .int .u8 255] 5)) w.heap.size 24 #[.string ⟨#[]⟩, .string ⟨#[]⟩, .int .i64 0, .int .i64 0, .int .i64 0] ∧ Blk (v1_.alloc (.cells #[.int .u8 255, .int .u8 255] 5)) gf 24 #[.string ⟨#[]⟩, .string ⟨#[]⟩, .int .i64 0, .int .i64 0, .int .i64 0] ∧ Blk (v1_.alloc (.cells #[.int .u8 255, .int .u8 255] 5)) gx 61 #[.int .i64 t, .int .i64 i, .int .i64 f, .int .i64 0, .int .i64 h, .int .i64 p, .string (bsL s), .string (bsL d), .string (bsL q)] := ⟨bel_trans H1.out.1 (bel_alloc _ _), H1.out.2.1.alloc _, H1.out.2.2.1.alloc _, H1.out.2.2.2.alloc _⟩
          go_simp
          generalize v1_.alloc (.cells #[.int .u8 255, .int .u8 255] 5) = v3_ at nb nh ⊢
          generalize v1_.heap.size = g3_ at nb ⊢
          have H3 : Hid (Below w.heap.size w v3_ ∧ Blk v3_ w.heap.size 24 #[.string ⟨#[]⟩, .string ⟨#[]⟩, .int .i64 0, .int .i64 0, .int .i64 0] ∧ Blk v3_ gf 24 #[.string ⟨#[]⟩, .string ⟨#[]⟩, .int .i64 0, .int .i64 0, .int .i64 0] ∧ Blk v3_ gx 61 #[.int .i64 t, .int .i64 i, .int .i64 f, .int .i64 0, .int .i64 h, .int .i64 p, .string (bsL s), .string (bsL d), .string (bsL q)]) := nh
          have KN3 : Hid (Blk v3_ g3_ 5 #[.int .u8 255, .int .u8 255]) := nb
          clear nh nb
          refine hK.out _ _ trivial (fun hHeld => ?_)
          clear hK K hHeld
          refine wpAnyH_ready (rs := [3]) (by kernel_rfl) (by simp) ?_
          refine AllReadyH.cons rfl (fun K hK => ?_) ?_
          · have cv : (convert 51 9 (.slice (some ⟨g3_, 0, none⟩) 2 2)).run Try.prog v3_ = .ok (.string (bsL [255, 255])) v3_ := conv_blk [255, 255] KN3.out
            go_simp
            clear cv
            refine hK.out _ _ trivial (fun hHeld => ?_)
            clear hK K hHeld
            refine wpAnyH_take (i := 4) (v := ?_) rfl (by kernel_rfl) (by kernel_rfl) (by kernel_rfl) (fun _ _ _ h => h) (Or.inl ⟨by rfl, ?_⟩) trivial ?_
            rotate_left
            · intro w hSw; go_simp; first | done | with_reducible rfl
            simp only [List.getElem_toArray, List.getElem_cons_zero, List.getElem_cons_succ, Act.put, List.setIfInBounds_toArray, List.set_cons_zero, List.set_cons_succ]
            refine wpAnyH_take (i := 5) (v := ?_) rfl (by kernel_rfl) (by kernel_rfl) (by kernel_rfl) (fun _ _ _ h => h) (Or.inl ⟨by rfl, ?_⟩) trivial ?_
            rotate_left
            · intro w hSw; go_simp; first | done | with_reducible rfl
            simp only [List.getElem_toArray, List.getElem_cons_zero, List.getElem_cons_succ, Act.put, List.setIfInBounds_toArray, List.set_cons_zero, List.set_cons_succ]
            refine wpAnyH_done (by kernel_rfl) ?_ _
            refine NoPanic.normal ?_
            go_wp2_with fail
            go_meet
            case rel => exact ⟨rfl, H3.out⟩
          exact AllReadyH.nil
        exact AllReadyH.nil
      refine AllReadyH.cons rfl (fun K hK => ?_) ?_
      · have nb := Blk.new v1_ 5 #[.int .u8 255, .int .u8 255]
        have nh : Below w.heap.size w (v1_.alloc (.cells #[.int .u8 255, .int .u8 255] 5)) ∧ Blk (v1_.alloc (.cells #[.int .u8 255, .int .u8 255] 5)) w.heap.size 24 #[.string ⟨#[]⟩, .string ⟨#[]⟩, .int .i64 0, .int .i64 0, .int .i64 0] ∧ Blk (v1_.alloc (.cells #[.int .u8 255, .int .u8 255] 5)) gf 24 #[.string ⟨#[]⟩, .string ⟨#[]⟩, .int .i64 0, .int .i64 0, .int .i64 0] ∧ Blk (v1_.alloc (.cells #[.int .u8 255, .int .u8 255] 5)) gx 61 #[.int .i64 t, .int .i64 i, .int .i64 f, .int .i64 0, .int .i64 h, .int .i64 p, .string (bsL s), .string (bsL d), .string (bsL q)] := ⟨bel_trans H1.out.1 (bel_alloc _ _), H1.out.2.1.alloc _, H1.out.2.2.1.alloc _, H1.out.2.2.2.alloc _⟩
        have no := KN1.out.alloc (.cells #[.int .u8 255, .int .u8 255] 5)
        go_simp
        generalize v1_.alloc (.cells #[.int .u8 255, .int .u8 255] 5) = v5_ at nb nh no ⊢
        generalize v1_.heap.size = g5_ at nb ⊢
        have H5 : Hid (Below w.heap.size w v5_ ∧ Blk v5_ w.heap.size 24 #[.string ⟨#[]⟩, .string ⟨#[]⟩, .int .i64 0, .int .i64 0, .int .i64 0] ∧ Blk v5_ gf 24 #[.string ⟨#[]⟩, .string ⟨#[]⟩, .int .i64 0, .int .i64 0, .int .i64 0] ∧ Blk v5_ gx 61 #[.int .i64 t, .int .i64 i, .int .i64 f, .int .i64 0, .int .i64 h, .int .i64 p, .string (bsL s), .string (bsL d), .string (bsL q)]) := nh
        have KN5 : Hid (Blk v5_ g5_ 5 #[.int .u8 255, .int .u8 255]) := nb
        clear nh nb
        have KO5 : Hid (Blk v5_ g1_ 5 #[.int .u8 0, .int .u8 0, .int .u8 0, .int .u8 0, .int .u8 0, .int .u8 0, .int .u8 0, .int .u8 0, .int .u8 0, .int .u8 0]) := no
        clear no
        refine hK.out _ _ trivial (fun hHeld => ?_)
        clear hK K hHeld
        refine wpAnyH_ready (rs := [1, 3]) (by kernel_rfl) (by simp) ?_
        refine AllReadyH.cons rfl (fun K hK => ?_) ?_
        · have cv : (convert 51 9 (.slice (some ⟨g1_, 0, none⟩) 10 10)).run Try.prog v5_ = .ok (.string (bsL [0, 0, 0, 0, 0, 0, 0, 0, 0, 0])) v5_ := conv_blk [0, 0, 0, 0, 0, 0, 0, 0, 0, 0] KO5.out
          go_simp
          clear cv
          refine hK.out _ _ trivial (fun hHeld => ?_)
          clear hK K hHeld
          refine wpAnyH_ready (rs := [3]) (by kernel_rfl) (by simp) ?_
          refine AllReadyH.cons rfl (fun K hK => ?_) ?_
          · have cv : (convert 51 9 (.slice (some ⟨g5_, 0, none⟩) 2 2)).run Try.prog v5_ = .ok (.string (bsL [255, 255])) v5_ := conv_blk [255, 255] KN5.out
            go_simp
            clear cv
            refine hK.out _ _ trivial (fun hHeld => ?_)
            clear hK K hHeld
            refine wpAnyH_take (i := 4) (v := ?_) rfl (by kernel_rfl) (by kernel_rfl) (by kernel_rfl) (fun _ _ _ h => h) (Or.inl ⟨by rfl, ?_⟩) trivial ?_
            rotate_left
            · intro w hSw; go_simp; first | done | with_reducible rfl
            simp only [List.getElem_toArray, List.getElem_cons_zero, List.getElem_cons_succ, Act.put, List.setIfInBounds_toArray, List.set_cons_zero, List.set_cons_succ]
            refine wpAnyH_take (i := 5) (v := ?_) rfl (by kernel_rfl) (by kernel_rfl) (by kernel_rfl) (fun _ _ _ h => h) (Or.inl ⟨by rfl, ?_⟩) trivial ?_
            rotate_left
            · intro w hSw; go_simp; first | done | with_reducible rfl
            simp only [List.getElem_toArray, List.getElem_cons_zero, List.getElem_cons_succ, Act.put, List.setIfInBounds_toArray, List.set_cons_zero, List.set_cons_succ]
            refine wpAnyH_done (by kernel_rfl) ?_ _
            refine NoPanic.normal ?_
            go_wp2_with fail
            go_meet
            case rel => exact ⟨rfl, H5.out⟩
          exact AllReadyH.nil
        refine AllReadyH.cons rfl (fun K hK => ?_) ?_
        · have cv : (convert 51 9 (.slice (some ⟨g5_, 0, none⟩) 2 2)).run Try.prog v5_ = .ok (.string (bsL [255, 255])) v5_ := conv_blk [255, 255] KN5.out
          go_simp
          clear cv
          refine hK.out _ _ trivial (fun hHeld => ?_)
          clear hK K hHeld
          refine wpAnyH_ready (rs := [1]) (by kernel_rfl) (by simp) ?_
          refine AllReadyH.cons rfl (fun K hK => ?_) ?_
          · have cv : (convert 51 9 (.slice (some ⟨g1_, 0, none⟩) 10 10)).run Try.prog v5_ = .ok (.string (bsL [0, 0, 0, 0, 0, 0, 0, 0, 0, 0])) v5_ := conv_blk [0, 0, 0, 0, 0, 0, 0, 0, 0, 0] KO5.out
            go_simp
            clear cv
            refine hK.out _ _ trivial (fun hHeld => ?_)
            clear hK K hHeld
            refine wpAnyH_take (i := 4) (v := ?_) rfl (by kernel_rfl) (by kernel_rfl) (by kernel_rfl) (fun _ _ _ h => h) (Or.inl ⟨by rfl, ?_⟩) trivial ?_
            rotate_left
            · intro w hSw; go_simp; first | done | with_reducible rfl
            simp only [List.getElem_toArray, List.getElem_cons_zero, List.getElem_cons_succ, Act.put, List.setIfInBounds_toArray, List.set_cons_zero, List.set_cons_succ]
            refine wpAnyH_take (i := 5) (v := ?_) rfl (by kernel_rfl) (by kernel_rfl) (by kernel_rfl) (fun _ _ _ h => h) (Or.inl ⟨by rfl, ?_⟩) trivial ?_
            rotate_left
            · intro w hSw; go_simp; first | done | with_reducible rfl
            simp only [List.getElem_toArray, List.getElem_cons_zero, List.getElem_cons_succ, Act.put, List.setIfInBounds_toArray, List.set_cons_zero, List.set_cons_succ]
            refine wpAnyH_done (by kernel_rfl) ?_ _
            refine NoPanic.normal ?_
            go_wp2_with fail
            go_meet
            case rel => exact ⟨rfl, H5.out⟩
          exact AllReadyH.nil
        exact AllReadyH.nil
      exact AllReadyH.nil
    refine AllReadyH.cons rfl (fun K hK => ?_) ?_
    · have nb := Blk.new v0_ 5 #[.int .u8 255, .int .u8 255]
      have nh : Below w.heap.size w (v0_.alloc (.cells #[.int .u8 255, .int .u8 255] 5)) ∧ Blk (v0_.alloc (.cells #[.int .u8 255, .int .u8 255] 5)) w.heap.size 24 #[.string ⟨#[]⟩, .string ⟨#[]⟩, .int .i64 0, .int .i64 0, .int .i64 0] ∧ Blk (v0_.alloc (.cells #[.int .u8 255, .int .u8 255] 5)) gf 24 #[.string ⟨#[]⟩, .string ⟨#[]⟩, .int .i64 0, .int .i64 0, .int .i64 0] ∧ Blk (v0_.alloc (.cells #[.int .u8 255, .int .u8 255] 5)) gx 61 #[.int .i64 t, .int .i64 i, .int .i64 f, .int .i64 0, .int .i64 h, .int .i64 p, .string (bsL s), .string (bsL d), .string (bsL q)] := ⟨bel_trans HB.out.1 (bel_alloc _ _), HB.out.2.1.alloc _, HB.out.2.2.1.alloc _, HB.out.2.2.2.alloc _⟩
      go_simp
      generalize v0_.alloc (.cells #[.int .u8 255, .int .u8 255] 5) = v10_ at nb nh ⊢
      generalize v0_.heap.size = g10_ at nb ⊢
      have H10 : Hid (Below w.heap.size w v10_ ∧ Blk v10_ w.heap.size 24 #[.string ⟨#[]⟩, .string ⟨#[]⟩, .int .i64 0, .int .i64 0, .int .i64 0] ∧ Blk v10_ gf 24 #[.string ⟨#[]⟩, .string ⟨#[]⟩, .int .i64 0, .int .i64 0, .int .i64 0] ∧ Blk v10_ gx 61 #[.int .i64 t, .int .i64 i, .int .i64 f, .int .i64 0, .int .i64 h, .int .i64 p, .string (bsL s), .string (bsL d), .string (bsL q)]) := nh
      have KN10 : Hid (Blk v10_ g10_ 5 #[.int .u8 255, .int .u8 255]) := nb
      clear nh nb
      refine hK.out _ _ trivial (fun hHeld => ?_)
      clear hK K hHeld
      refine wpAnyH_ready (rs := [0, 3]) (by kernel_rfl) (by simp) ?_
      refine AllReadyH.cons rfl (fun K hK => ?_) ?_
      · have mk : (Instr.makeSlice 51 (.int .i64 10) (.int .i64 10)).run Try.prog v10_ = .ok (.slice (some ⟨v10_.heap.size, 0, none⟩) 10 10) (v10_.alloc (.cells #[.int .u8 0, .int .u8 0, .int .u8 0, .int .u8 0, .int .u8 0, .int .u8 0, .int .u8 0, .int .u8 0, .int .u8 0, .int .u8 0] 5)) := by rw [← made_ten]; exact run_make_full (P := Try.prog) 51 5 (.int .u8 0) 1 Try.underlying51 info5 rfl .i64 .i64 10 (by omega) (by omega) v10_
        have nb := Blk.new v10_ 5 #[.int .u8 0, .int .u8 0, .int .u8 0, .int .u8 0, .int .u8 0, .int .u8 0, .int .u8 0, .int .u8 0, .int .u8 0, .int .u8 0]
        have nh : Below w.heap.size w (v10_.alloc (.cells #[.int .u8 0, .int .u8 0, .int .u8 0, .int .u8 0, .int .u8 0, .int .u8 0, .int .u8 0, .int .u8 0, .int .u8 0, .int .u8 0] 5)) ∧ Blk (v10_.alloc (.cells #[.int .u8 0, .int .u8 0, .int .u8 0, .int .u8 0, .int .u8 0, .int .u8 0, .int .u8 0, .int .u8 0, .int .u8 0, .int .u8 0] 5)) w.heap.size 24 #[.string ⟨#[]⟩, .string ⟨#[]⟩, .int .i64 0, .int .i64 0, .int .i64 0] ∧ Blk (v10_.alloc (.cells #[.int .u8 0, .int .u8 0, .int .u8 0, .int .u8 0, .int .u8 0, .int .u8 0, .int .u8 0, .int .u8 0, .int .u8 0, .int .u8 0] 5)) gf 24 #[.string ⟨#[]⟩, .string ⟨#[]⟩, .int .i64 0, .int .i64 0, .int .i64 0] ∧ Blk (v10_.alloc (.cells #[.int .u8 0, .int .u8 0, .int .u8 0, .int .u8 0, .int .u8 0, .int .u8 0, .int .u8 0, .int .u8 0, .int .u8 0, .int .u8 0] 5)) gx 61 #[.int .i64 t, .int .i64 i, .int .i64 f, .int .i64 0, .int .i64 h, .int .i64 p, .string (bsL s), .string (bsL d), .string (bsL q)] := ⟨bel_trans H10.out.1 (bel_alloc _ _), H10.out.2.1.alloc _, H10.out.2.2.1.alloc _, H10.out.2.2.2.alloc _⟩
        have no := KN10.out.alloc (.cells #[.int .u8 0, .int .u8 0, .int .u8 0, .int .u8 0, .int .u8 0, .int .u8 0, .int .u8 0, .int .u8 0, .int .u8 0, .int .u8 0] 5)
        go_simp
        clear mk
        generalize v10_.alloc (.cells #[.int .u8 0, .int .u8 0, .int .u8 0, .int .u8 0, .int .u8 0, .int .u8 0, .int .u8 0, .int .u8 0, .int .u8 0, .int .u8 0] 5) = v11_ at nb nh no ⊢
        generalize v10_.heap.size = g11_ at nb ⊢
        have H11 : Hid (Below w.heap.size w v11_ ∧ Blk v11_ w.heap.size 24 #[.string ⟨#[]⟩, .string ⟨#[]⟩, .int .i64 0, .int .i64 0, .int .i64 0] ∧ Blk v11_ gf 24 #[.string ⟨#[]⟩, .string ⟨#[]⟩, .int .i64 0, .int .i64 0, .int .i64 0] ∧ Blk v11_ gx 61 #[.int .i64 t, .int .i64 i, .int .i64 f, .int .i64 0, .int .i64 h, .int .i64 p, .string (bsL s), .string (bsL d), .string (bsL q)]) := nh
        have KN11 : Hid (Blk v11_ g11_ 5 #[.int .u8 0, .int .u8 0, .int .u8 0, .int .u8 0, .int .u8 0, .int .u8 0, .int .u8 0, .int .u8 0, .int .u8 0, .int .u8 0]) := nb
        clear nh nb
        have KO11 : Hid (Blk v11_ g10_ 5 #[.int .u8 255, .int .u8 255]) := no
        clear no
        refine hK.out _ _ trivial (fun hHeld => ?_)
        clear hK K hHeld
        refine wpAnyH_ready (rs := [1, 3]) (by kernel_rfl) (by simp) ?_
        refine AllReadyH.cons rfl (fun K hK => ?_) ?_
        · have cv : (convert 51 9 (.slice (some ⟨g11_, 0, none⟩) 10 10)).run Try.prog v11_ = .ok (.string (bsL [0, 0, 0, 0, 0, 0, 0, 0, 0, 0])) v11_ := conv_blk [0, 0, 0, 0, 0, 0, 0, 0, 0, 0] KN11.out
          go_simp
          clear cv
          refine hK.out _ _ trivial (fun hHeld => ?_)
          clear hK K hHeld
          refine wpAnyH_ready (rs := [3]) (by kernel_rfl) (by simp) ?_
          refine AllReadyH.cons rfl (fun K hK => ?_) ?_
          · have cv : (convert 51 9 (.slice (some ⟨g10_, 0, none⟩) 2 2)).run Try.prog v11_ = .ok (.string (bsL [255, 255])) v11_ := conv_blk [255, 255] KO11.out
            go_simp
            clear cv
            refine hK.out _ _ trivial (fun hHeld => ?_)
            clear hK K hHeld
            refine wpAnyH_take (i := 4) (v := ?_) rfl (by kernel_rfl) (by kernel_rfl) (by kernel_rfl) (fun _ _ _ h => h) (Or.inl ⟨by rfl, ?_⟩) trivial ?_
            rotate_left
            · intro w hSw; go_simp; first | done | with_reducible rfl
            simp only [List.getElem_toArray, List.getElem_cons_zero, List.getElem_cons_succ, Act.put, List.setIfInBounds_toArray, List.set_cons_zero, List.set_cons_succ]
            refine wpAnyH_take (i := 5) (v := ?_) rfl (by kernel_rfl) (by kernel_rfl) (by kernel_rfl) (fun _ _ _ h => h) (Or.inl ⟨by rfl, ?_⟩) trivial ?_
            rotate_left
            · intro w hSw; go_simp; first | done | with_reducible rfl
            simp only [List.getElem_toArray, List.getElem_cons_zero, List.getElem_cons_succ, Act.put, List.setIfInBounds_toArray, List.set_cons_zero, List.set_cons_succ]
            refine wpAnyH_done (by kernel_rfl) ?_ _
            refine NoPanic.normal ?_
            go_wp2_with fail
            go_meet
            case rel => exact ⟨rfl, H11.out⟩
          exact AllReadyH.nil
        refine AllReadyH.cons rfl (fun K hK => ?_) ?_
        · have cv : (convert 51 9 (.slice (some ⟨g10_, 0, none⟩) 2 2)).run Try.prog v11_ = .ok (.string (bsL [255, 255])) v11_ := conv_blk [255, 255] KO11.out
          go_simp
          clear cv
          refine hK.out _ _ trivial (fun hHeld => ?_)
          clear hK K hHeld
          refine wpAnyH_ready (rs := [1]) (by kernel_rfl) (by simp) ?_
          refine AllReadyH.cons rfl (fun K hK => ?_) ?_
          · have cv : (convert 51 9 (.slice (some ⟨g11_, 0, none⟩) 10 10)).run Try.prog v11_ = .ok (.string (bsL [0, 0, 0, 0, 0, 0, 0, 0, 0, 0])) v11_ := conv_blk [0, 0, 0, 0, 0, 0, 0, 0, 0, 0] KN11.out
            go_simp
            clear cv
            refine hK.out _ _ trivial (fun hHeld => ?_)
            clear hK K hHeld
            refine wpAnyH_take (i := 4) (v := ?_) rfl (by kernel_rfl) (by kernel_rfl) (by kernel_rfl) (fun _ _ _ h => h) (Or.inl ⟨by rfl, ?_⟩) trivial ?_
            rotate_left
            · intro w hSw; go_simp; first | done | with_reducible rfl
            simp only [List.getElem_toArray, List.getElem_cons_zero, List.getElem_cons_succ, Act.put, List.setIfInBounds_toArray, List.set_cons_zero, List.set_cons_succ]
            refine wpAnyH_take (i := 5) (v := ?_) rfl (by kernel_rfl) (by kernel_rfl) (by kernel_rfl) (fun _ _ _ h => h) (Or.inl ⟨by rfl, ?_⟩) trivial ?_
            rotate_left
            · intro w hSw; go_simp; first | done | with_reducible rfl
            simp only [List.getElem_toArray, List.getElem_cons_zero, List.getElem_cons_succ, Act.put, List.setIfInBounds_toArray, List.set_cons_zero, List.set_cons_succ]
            refine wpAnyH_done (by kernel_rfl) ?_ _
            refine NoPanic.normal ?_
            go_wp2_with fail
            go_meet
            case rel => exact ⟨rfl, H11.out⟩
          exact AllReadyH.nil
        exact AllReadyH.nil
      refine AllReadyH.cons rfl (fun K hK => ?_) ?_
      · have cv : (convert 51 9 (.slice (some ⟨g10_, 0, none⟩) 2 2)).run Try.prog v10_ = .ok (.string (bsL [255, 255])) v10_ := conv_blk [255, 255] KN10.out
        go_simp
        clear cv
        refine hK.out _ _ trivial (fun hHeld => ?_)
        clear hK K hHeld
        refine wpAnyH_ready (rs := [0]) (by kernel_rfl) (by simp) ?_
        refine AllReadyH.cons rfl (fun K hK => ?_) ?_
        · have mk : (Instr.makeSlice 51 (.int .i64 10) (.int .i64 10)).run Try.prog v10_ = .ok (.slice (some ⟨v10_.heap.size, 0, none⟩) 10 10) (v10_.alloc (.cells #[.int .u8 0, .int .u8 0, .int .u8 0, .int .u8 0, .int .u8 0, .int .u8 0, .int .u8 0, .int .u8 0, .int .u8 0, .int .u8 0] 5)) := by rw [← made_ten]; exact run_make_full (P := Try.prog) 51 5 (.int .u8 0) 1 Try.underlying51 info5 rfl .i64 .i64 10 (by omega) (by omega) v10_
          have nb := Blk.new v10_ 5 #[.int .u8 0, .int .u8 0, .int .u8 0, .int .u8 0, .int .u8 0, .int .u8 0, .int .u8 0, .int .u8 0, .int .u8 0, .int .u8 0]
          have nh : Below w.heap.size w (v10_.alloc (.cells #[.int .u8 0, .int .u8 0, .int .u8 0, .int .u8 0, .int .u8 0, .int .u8 0, .int .u8 0, .int .u8 0, .int .u8 0, .int .u8 0] 5)) ∧ Blk (v10_.alloc (.cells #[.int .u8 0, .int .u8 0, .int .u8 0, .int .u8 0, .int .u8 0, .int .u8 0, .int .u8 0, .int .u8 0, .int .u8 0, .int .u8 0] 5)) w.heap.size 24 #[.string ⟨#[]⟩, .string ⟨#[]⟩, .int .i64 0, .int .i64 0, .int .i64 0] ∧ Blk (v10_.alloc (.cells #[.int .u8 0, .int .u8 0, .int .u8 0, .int .u8 0, .int .u8 0, .int .u8 0, .int .u8 0, .int .u8 0, .int .u8 0, .int .u8 0] 5)) gf 24 #[.string ⟨#[]⟩, .string ⟨#[]⟩, .int .i64 0, .int .i64 0, .int .i64 0] ∧ Blk (v10_.alloc (.cells #[.int .u8 0, .int .u8 0, .int .u8 0, .int .u8 0, .int .u8 0, .int .u8 0, .int .u8 0, .int .u8 0, .int .u8 0, .int .u8 0] 5)) gx 61 #[.int .i64 t, .int .i64 i, .int .i64 f, .int .i64 0, .int .i64 h, .int .i64 p, .string (bsL s), .string (bsL d), .string (bsL q)] := ⟨bel_trans H10.out.1 (bel_alloc _ _), H10.out.2.1.alloc _, H10.out.2.2.1.alloc _, H10.out.2.2.2.alloc _⟩
          go_simp
          clear mk
          generalize v10_.alloc (.cells #[.int .u8 0, .int .u8 0, .int .u8 0, .int .u8 0, .int .u8 0, .int .u8 0, .int .u8 0, .int .u8 0, .int .u8 0, .int .u8 0] 5) = v17_ at nb nh ⊢
          generalize v10_.heap.size = g17_ at nb ⊢
          have H17 : Hid (Below w.heap.size w v17_ ∧ Blk v17_ w.heap.size 24 #[.string ⟨#[]⟩, .string ⟨#[]⟩, .int .i64 0, .int .i64 0, .int .i64 0] ∧ Blk v17_ gf 24 #[.string ⟨#[]⟩, .string ⟨#[]⟩, .int .i64 0, .int .i64 0, .int .i64 0] ∧ Blk v17_ gx 61 #[.int .i64 t, .int .i64 i, .int .i64 f, .int .i64 0, .int .i64 h, .int .i64 p, .string (bsL s), .string (bsL d), .string (bsL q)]) := nh
          have KN17 : Hid (Blk v17_ g17_ 5 #[.int .u8 0, .int .u8 0, .int .u8 0, .int .u8 0, .int .u8 0, .int .u8 0, .int .u8 0, .int .u8 0, .int .u8 0, .int .u8 0]) := nb
          clear nh nb
          refine hK.out _ _ trivial (fun hHeld => ?_)
          clear hK K hHeld
          refine wpAnyH_ready (rs := [1]) (by kernel_rfl) (by simp) ?_
          refine AllReadyH.cons rfl (fun K hK => ?_) ?_
          · have cv : (convert 51 9 (.slice (some ⟨g17_, 0, none⟩) 10 10)).run Try.prog v17_ = .ok (.string (bsL [0, 0, 0, 0, 0, 0, 0, 0, 0, 0])) v17_ := conv_blk [0, 0, 0, 0, 0, 0, 0, 0, 0, 0] KN17.out
            go_simp
            clear cv
            refine hK.out _ _ trivial (fun hHeld => ?_)
            clear hK K hHeld
            refine wpAnyH_take (i := 4) (v := ?_) rfl (by kernel_rfl) (by kernel_rfl) (by kernel_rfl) (fun _ _ _ h => h) (Or.inl ⟨by rfl, ?_⟩) trivial ?_
            rotate_left
            · intro w hSw; go_simp; first | done | with_reducible rfl
            simp only [List.getElem_toArray, List.getElem_cons_zero, List.getElem_cons_succ, Act.put, List.setIfInBounds_toArray, List.set_cons_zero, List.set_cons_succ]
            refine wpAnyH_take (i := 5) (v := ?_) rfl (by kernel_rfl) (by kernel_rfl) (by kernel_rfl) (fun _ _ _ h => h) (Or.inl ⟨by rfl, ?_⟩) trivial ?_
            rotate_left
            · intro w hSw; go_simp; first | done | with_reducible rfl
            simp only [List.getElem_toArray, List.getElem_cons_zero, List.getElem_cons_succ, Act.put, List.setIfInBounds_toArray, List.set_cons_zero, List.set_cons_succ]
            refine wpAnyH_done (by kernel_rfl) ?_ _
            refine NoPanic.normal ?_
            go_wp2_with fail
            go_meet
            case rel => exact ⟨rfl, H17.out⟩
          exact AllReadyH.nil
        exact AllReadyH.nil
      exact AllReadyH.nil
    exact AllReadyH.nil
  case rest =>
    obtain ⟨rfl, hc1, hc2, hc3, hc4⟩ := hcut
    have HV : Hid (Below w.heap.size w wc ∧ Blk wc w.heap.size 24 #[.string ⟨#[]⟩, .string ⟨#[]⟩, .int .i64 0, .int .i64 0, .int .i64 0] ∧ Blk wc gf 24 #[.string ⟨#[]⟩, .string ⟨#[]⟩, .int .i64 0, .int .i64 0, .int .i64 0] ∧ Blk wc gx 61 #[.int .i64 t, .int .i64 i, .int .i64 f, .int .i64 0, .int .i64 h, .int .i64 p, .string (bsL s), .string (bsL d), .string (bsL q)]) := ⟨hc1, hc2, hc3, hc4⟩
    clear hc1 hc2 hc3 hc4
    have AL : aheadL.length = 12 := rfl
    have m5 : wc.cell? ⟨gx, 5, none⟩ = some (.int .i64 p) := HV.out.2.2.2.cell 5
    have m6 : wc.cell? ⟨gx, 6, none⟩ = some (.string (bsL s)) := HV.out.2.2.2.cell 6
    have m7 : wc.cell? ⟨gx, 7, none⟩ = some (.string (bsL d)) := HV.out.2.2.2.cell 7
    have f0 : wc.cell? ⟨gf, 0, none⟩ = some (.string ⟨#[]⟩) := HV.out.2.2.1.cell 0
    have f1 : wc.cell? ⟨gf, 1, none⟩ = some (.string ⟨#[]⟩) := HV.out.2.2.1.cell 1
    have f2 : wc.cell? ⟨gf, 2, none⟩ = some (.int .i64 0) := HV.out.2.2.1.cell 2
    have f3 : wc.cell? ⟨gf, 3, none⟩ = some (.int .i64 0) := HV.out.2.2.1.cell 3
    have f4 : wc.cell? ⟨gf, 4, none⟩ = some (.int .i64 0) := HV.out.2.2.1.cell 4
    have z0 := HV.out.2.2.1.frozen 0
    have z1 := HV.out.2.2.1.frozen 1
    have z2 := HV.out.2.2.1.frozen 2
    have z3 := HV.out.2.2.1.frozen 3
    have z4 := HV.out.2.2.1.frozen 4
    go_upto_region 17 with fail
    go_cut [8] from 59 (fun s8 wx => s8 = .string ⟨#[]⟩ ∧ Below w.heap.size w wx ∧ Blk wx w.heap.size 24 #[.string ⟨#[]⟩, .string ⟨#[]⟩, .int .i64 0, .int .i64 0, .int .i64 0] ∧ Blk wx gf 24 #[.string (bsL (aheadL ++ s)), .string (bsL (aheadL ++ d)), .int .i64 p, .int .i64 0, .int .i64 0])
    case first =>
      go_region
      all_goals
        go_wp2_with fail
        go_meet
        case rel =>
          refine ⟨rfl, ?_, ?_, ?_⟩
          · exact ((HV.out.1.drew.setCell (p := ⟨gf, _, none⟩) (by show w.heap.size ≤ gf; omega) _).setCell (p := ⟨gf, _, none⟩) (by show w.heap.size ≤ gf; omega) _).setCell (p := ⟨gf, _, none⟩) (by show w.heap.size ≤ gf; omega) _
          · exact ((HV.out.2.1.other (by show w.heap.size ≠ gf; omega) _).other (by show w.heap.size ≠ gf; omega) _).other (by show w.heap.size ≠ gf; omega) _
          · first | exact ((HV.out.2.2.1.set 0 _).set 1 _).set 2 _ | exact ((HV.out.2.2.1.set 0 _).set 2 _).set 1 _ | exact ((HV.out.2.2.1.set 1 _).set 0 _).set 2 _ | exact ((HV.out.2.2.1.set 1 _).set 2 _).set 0 _ | exact ((HV.out.2.2.1.set 2 _).set 0 _).set 1 _ | exact ((HV.out.2.2.1.set 2 _).set 1 _).set 0 _
    case rest =>
      clear HV m5 m6 m7 f0 f1 f2 f3 f4 z0 z1 z2 z3 z4
      obtain ⟨rfl, hc1, hc2, hc3⟩ := hcut
      have HT : Hid (Below w.heap.size w wc ∧ Blk wc w.heap.size 24 #[.string ⟨#[]⟩, .string ⟨#[]⟩, .int .i64 0, .int .i64 0, .int .i64 0] ∧ Blk wc gf 24 #[.string (bsL (aheadL ++ s)), .string (bsL (aheadL ++ d)), .int .i64 p, .int .i64 0, .int .i64 0]) := ⟨hc1, hc2, hc3⟩
      clear hc1 hc2 hc3
      by_cases hp : p = 6 ∨ p = 17
      rotate_left
      · have q1 : (p == 6) = false := by simp; omega
        have q2 : (p == 17) = false := by simp; omega
        have E : Hid (ansOf l = ⟨⟨(aheadL ++ s), (aheadL ++ d), p, 0, 0⟩, 0⟩) := by rw [E.out]; exact w_none hp
        clear hp
        have x0 : wc.cell? ⟨w.heap.size, 0, none⟩ = some (.string ⟨#[]⟩) := HT.out.2.1.cell 0
        have x1 : wc.cell? ⟨w.heap.size, 1, none⟩ = some (.string ⟨#[]⟩) := HT.out.2.1.cell 1
        have x2 : wc.cell? ⟨w.heap.size, 2, none⟩ = some (.int .i64 0) := HT.out.2.1.cell 2
        have x3 : wc.cell? ⟨w.heap.size, 3, none⟩ = some (.int .i64 0) := HT.out.2.1.cell 3
        have x4 : wc.cell? ⟨w.heap.size, 4, none⟩ = some (.int .i64 0) := HT.out.2.1.cell 4
        have y0 := HT.out.2.1.frozen 0
        have y1 := HT.out.2.1.frozen 1
        have y2 := HT.out.2.1.frozen 2
        have y3 := HT.out.2.1.frozen 3
        have y4 := HT.out.2.1.frozen 4
        have f0 : wc.cell? ⟨gf, 0, none⟩ = some (.string (bsL (aheadL ++ s))) := HT.out.2.2.cell 0
        have f1 : wc.cell? ⟨gf, 1, none⟩ = some (.string (bsL (aheadL ++ d))) := HT.out.2.2.cell 1
        have f2 : wc.cell? ⟨gf, 2, none⟩ = some (.int .i64 p) := HT.out.2.2.cell 2
        have f3 : wc.cell? ⟨gf, 3, none⟩ = some (.int .i64 0) := HT.out.2.2.cell 3
        have f4 : wc.cell? ⟨gf, 4, none⟩ = some (.int .i64 0) := HT.out.2.2.cell 4
        go_wp2_with fail
        refine bodyPost_ret (v := .tuple #[.agg #[.string (bsL (aheadL ++ s)), .string (bsL (aheadL ++ d)), .int .i64 p, .int .i64 0, .int .i64 0], .int .i64 0]) ?_ rfl ⟨(aheadL ++ s), (aheadL ++ d), p, 0, 0, 0, rfl, E.out, put5_below HT.out.1 (Nat.le_refl _) _ _ _ _ _⟩
        have c5 := put5_blk (t := 24) HT.out.2.1 (.string (bsL (aheadL ++ s))) (.string (bsL (aheadL ++ d))) (.int .i64 p) (.int .i64 0) (.int .i64 0)
        have c50 := c5.cell 0
        have c51 := c5.cell 1
        have c52 := c5.cell 2
        have c53 := c5.cell 3
        have c54 := c5.cell 4
        change (results _ _).run _ (put5 wc w.heap.size (.string (bsL (aheadL ++ s))) (.string (bsL (aheadL ++ d))) (.int .i64 p) (.int .i64 0) (.int .i64 0)) = .ok _ (put5 wc w.heap.size (.string (bsL (aheadL ++ s))) (.string (bsL (aheadL ++ d))) (.int .i64 p) (.int .i64 0) (.int .i64 0))
        generalize put5 wc w.heap.size (.string (bsL (aheadL ++ s))) (.string (bsL (aheadL ++ d))) (.int .i64 p) (.int .i64 0) (.int .i64 0) = W5 at c50 c51 c52 c53 c54
        simp [results, Try.results11, go_sem, c50, c51, c52, c53, c54]
      rcases hp with rfl | rfl
      · have x0 : wc.cell? ⟨w.heap.size, 0, none⟩ = some (.string ⟨#[]⟩) := HT.out.2.1.cell 0
        have x1 : wc.cell? ⟨w.heap.size, 1, none⟩ = some (.string ⟨#[]⟩) := HT.out.2.1.cell 1
        have x2 : wc.cell? ⟨w.heap.size, 2, none⟩ = some (.int .i64 0) := HT.out.2.1.cell 2
        have x3 : wc.cell? ⟨w.heap.size, 3, none⟩ = some (.int .i64 0) := HT.out.2.1.cell 3
        have x4 : wc.cell? ⟨w.heap.size, 4, none⟩ = some (.int .i64 0) := HT.out.2.1.cell 4
        have y0 := HT.out.2.1.frozen 0
        have y1 := HT.out.2.1.frozen 1
        have y2 := HT.out.2.1.frozen 2
        have y3 := HT.out.2.1.frozen 3
        have y4 := HT.out.2.1.frozen 4
        have f0 : wc.cell? ⟨gf, 0, none⟩ = some (.string (bsL (aheadL ++ s))) := HT.out.2.2.cell 0
        have f1 : wc.cell? ⟨gf, 1, none⟩ = some (.string (bsL (aheadL ++ d))) := HT.out.2.2.cell 1
        have f2 : wc.cell? ⟨gf, 2, none⟩ = some (.int .i64 6) := HT.out.2.2.cell 2
        have f3 : wc.cell? ⟨gf, 3, none⟩ = some (.int .i64 0) := HT.out.2.2.cell 3
        have f4 : wc.cell? ⟨gf, 4, none⟩ = some (.int .i64 0) := HT.out.2.2.cell 4
        go_wp2_with fail
        refine (port_rtake 6 b _ hbl.out).mono ?_
        rintro e u9 ⟨rfl, b9⟩
        obtain ⟨SP, hSP⟩ : ∃ x, x = srcP 6 b := ⟨_, rfl⟩
        obtain ⟨DP, hDP⟩ : ∃ x, x = dstP 6 b := ⟨_, rfl⟩
        obtain ⟨EP, hEP⟩ : ∃ x, x = errP 6 b := ⟨_, rfl⟩
        obtain ⟨BP, hBP⟩ : ∃ x, x = bodyP 6 b := ⟨_, rfl⟩
        rw [← hSP, ← hDP, ← hEP, ← hBP]
        clear hBP
        have K9 : Hid (Below w.heap.size w u9 ∧ Blk u9 w.heap.size 24 #[.string ⟨#[]⟩, .string ⟨#[]⟩, .int .i64 0, .int .i64 0, .int .i64 0] ∧ Blk u9 gf 24 #[.string (bsL (aheadL ++ s)), .string (bsL (aheadL ++ d)), .int .i64 6, .int .i64 0, .int .i64 0]) := ⟨bel_trans HT.out.1 b9, HT.out.2.1.since b9, HT.out.2.2.since b9⟩
        clear b9 x0 x1 x2 x3 x4 y0 y1 y2 y3 y4 f0 f1 f2 f3 f4
        have x0 : u9.cell? ⟨w.heap.size, 0, none⟩ = some (.string ⟨#[]⟩) := K9.out.2.1.cell 0
        have x1 : u9.cell? ⟨w.heap.size, 1, none⟩ = some (.string ⟨#[]⟩) := K9.out.2.1.cell 1
        have x2 : u9.cell? ⟨w.heap.size, 2, none⟩ = some (.int .i64 0) := K9.out.2.1.cell 2
        have x3 : u9.cell? ⟨w.heap.size, 3, none⟩ = some (.int .i64 0) := K9.out.2.1.cell 3
        have x4 : u9.cell? ⟨w.heap.size, 4, none⟩ = some (.int .i64 0) := K9.out.2.1.cell 4
        have y0 := K9.out.2.1.frozen 0
        have y1 := K9.out.2.1.frozen 1
        have y2 := K9.out.2.1.frozen 2
        have y3 := K9.out.2.1.frozen 3
        have y4 := K9.out.2.1.frozen 4
        have f0 : u9.cell? ⟨gf, 0, none⟩ = some (.string (bsL (aheadL ++ s))) := K9.out.2.2.cell 0
        have f1 : u9.cell? ⟨gf, 1, none⟩ = some (.string (bsL (aheadL ++ d))) := K9.out.2.2.cell 1
        have f2 : u9.cell? ⟨gf, 2, none⟩ = some (.int .i64 6) := K9.out.2.2.cell 2
        have f3 : u9.cell? ⟨gf, 3, none⟩ = some (.int .i64 0) := K9.out.2.2.cell 3
        have f4 : u9.cell? ⟨gf, 4, none⟩ = some (.int .i64 0) := K9.out.2.2.cell 4
        have z0 := K9.out.2.2.frozen 0
        have z1 := K9.out.2.2.frozen 1
        have z2 := K9.out.2.2.frozen 2
        have z3 := K9.out.2.2.frozen 3
        have z4 := K9.out.2.2.frozen 4
        by_cases hc : EP = 0
        rotate_left
        · have q0 : ((EP : Int) != 0) = true := by simp; omega
          have E : Hid (ansOf l = ⟨zeroFw, EP⟩) := by
            show ansOf l = _
            rw [E.out, w_err (by decide) (by rw [← hEP]; exact hc), hEP]
          clear hc hSP hDP hEP
          go_wp2_with fail
          refine bodyPost_ret (v := .tuple #[.agg #[.string ⟨#[]⟩, .string ⟨#[]⟩, .int .i64 0, .int .i64 0, .int .i64 0], .int .i64 (EP : Int)]) ?_ rfl (gave_err (E := EP) E.out (put5_below K9.out.1 (Nat.le_refl _) _ _ _ _ _))
          have c5 := put5_blk (t := 24) K9.out.2.1 (.string ⟨#[]⟩) (.string ⟨#[]⟩) (.int .i64 0) (.int .i64 0) (.int .i64 0)
          have c50 := c5.cell 0
          have c51 := c5.cell 1
          have c52 := c5.cell 2
          have c53 := c5.cell 3
          have c54 := c5.cell 4
          change (results _ _).run _ (put5 u9 w.heap.size (.string ⟨#[]⟩) (.string ⟨#[]⟩) (.int .i64 0) (.int .i64 0) (.int .i64 0)) = .ok _ (put5 u9 w.heap.size (.string ⟨#[]⟩) (.string ⟨#[]⟩) (.int .i64 0) (.int .i64 0) (.int .i64 0))
          generalize put5 u9 w.heap.size (.string ⟨#[]⟩) (.string ⟨#[]⟩) (.int .i64 0) (.int .i64 0) (.int .i64 0) = W5 at c50 c51 c52 c53 c54
          simp [results, Try.results11, go_sem, c50, c51, c52, c53, c54]
        subst hc
        have E : Hid (ansOf l = ⟨⟨(aheadL ++ s), (aheadL ++ d), 6, SP, DP⟩, 0⟩) := by
          show ansOf l = _
          rw [E.out, w_ok (by decide) hEP.symm, hSP, hDP]
        clear hSP hDP hEP
        have KS : Hid (Blk ((u9.setCell ⟨gf, 3, none⟩ (.int .i64 (SP : Int))).setCell ⟨gf, 4, none⟩ (.int .i64 (DP : Int))) w.heap.size 24 #[.string ⟨#[]⟩, .string ⟨#[]⟩, .int .i64 0, .int .i64 0, .int .i64 0]) := (K9.out.2.1.other (by show w.heap.size ≠ gf; omega) _).other (by show w.heap.size ≠ gf; omega) _
        have BS : Hid (Below w.heap.size w ((u9.setCell ⟨gf, 3, none⟩ (.int .i64 (SP : Int))).setCell ⟨gf, 4, none⟩ (.int .i64 (DP : Int)))) := (K9.out.1.setCell (p := ⟨gf, 3, none⟩) (by show w.heap.size ≤ gf; omega) _).setCell (p := ⟨gf, 4, none⟩) (by show w.heap.size ≤ gf; omega) _
        go_wp2_with fail
        refine bodyPost_ret (v := .tuple #[.agg #[.string (bsL (aheadL ++ s)), .string (bsL (aheadL ++ d)), .int .i64 6, .int .i64 (SP : Int), .int .i64 (DP : Int)], .int .i64 0]) ?_ rfl ⟨(aheadL ++ s), (aheadL ++ d), 6, SP, DP, 0, rfl, E.out, put5_below BS.out (Nat.le_refl _) _ _ _ _ _⟩
        have c5 := put5_blk (t := 24) KS.out (.string (bsL (aheadL ++ s))) (.string (bsL (aheadL ++ d))) (.int .i64 6) (.int .i64 (SP : Int)) (.int .i64 (DP : Int))
        have c50 := c5.cell 0
        have c51 := c5.cell 1
        have c52 := c5.cell 2
        have c53 := c5.cell 3
        have c54 := c5.cell 4
        change (results _ _).run _ (put5 ((u9.setCell ⟨gf, 3, none⟩ (.int .i64 (SP : Int))).setCell ⟨gf, 4, none⟩ (.int .i64 (DP : Int))) w.heap.size (.string (bsL (aheadL ++ s))) (.string (bsL (aheadL ++ d))) (.int .i64 6) (.int .i64 (SP : Int)) (.int .i64 (DP : Int))) = .ok _ (put5 ((u9.setCell ⟨gf, 3, none⟩ (.int .i64 (SP : Int))).setCell ⟨gf, 4, none⟩ (.int .i64 (DP : Int))) w.heap.size (.string (bsL (aheadL ++ s))) (.string (bsL (aheadL ++ d))) (.int .i64 6) (.int .i64 (SP : Int)) (.int .i64 (DP : Int)))
        generalize put5 ((u9.setCell ⟨gf, 3, none⟩ (.int .i64 (SP : Int))).setCell ⟨gf, 4, none⟩ (.int .i64 (DP : Int))) w.heap.size (.string (bsL (aheadL ++ s))) (.string (bsL (aheadL ++ d))) (.int .i64 6) (.int .i64 (SP : Int)) (.int .i64 (DP : Int)) = W5 at c50 c51 c52 c53 c54
        simp [results, Try.results11, go_sem, c50, c51, c52, c53, c54]
      · have x0 : wc.cell? ⟨w.heap.size, 0, none⟩ = some (.string ⟨#[]⟩) := HT.out.2.1.cell 0
        have x1 : wc.cell? ⟨w.heap.size, 1, none⟩ = some (.string ⟨#[]⟩) := HT.out.2.1.cell 1
        have x2 : wc.cell? ⟨w.heap.size, 2, none⟩ = some (.int .i64 0) := HT.out.2.1.cell 2
        have x3 : wc.cell? ⟨w.heap.size, 3, none⟩ = some (.int .i64 0) := HT.out.2.1.cell 3
        have x4 : wc.cell? ⟨w.heap.size, 4, none⟩ = some (.int .i64 0) := HT.out.2.1.cell 4
        have y0 := HT.out.2.1.frozen 0
        have y1 := HT.out.2.1.frozen 1
        have y2 := HT.out.2.1.frozen 2
        have y3 := HT.out.2.1.frozen 3
        have y4 := HT.out.2.1.frozen 4
        have f0 : wc.cell? ⟨gf, 0, none⟩ = some (.string (bsL (aheadL ++ s))) := HT.out.2.2.cell 0
        have f1 : wc.cell? ⟨gf, 1, none⟩ = some (.string (bsL (aheadL ++ d))) := HT.out.2.2.cell 1
        have f2 : wc.cell? ⟨gf, 2, none⟩ = some (.int .i64 17) := HT.out.2.2.cell 2
        have f3 : wc.cell? ⟨gf, 3, none⟩ = some (.int .i64 0) := HT.out.2.2.cell 3
        have f4 : wc.cell? ⟨gf, 4, none⟩ = some (.int .i64 0) := HT.out.2.2.cell 4
        go_wp2_with fail
        refine (port_rtake 17 b _ hbl.out).mono ?_
        rintro e u9 ⟨rfl, b9⟩
        obtain ⟨SP, hSP⟩ : ∃ x, x = srcP 17 b := ⟨_, rfl⟩
        obtain ⟨DP, hDP⟩ : ∃ x, x = dstP 17 b := ⟨_, rfl⟩
        obtain ⟨EP, hEP⟩ : ∃ x, x = errP 17 b := ⟨_, rfl⟩
        obtain ⟨BP, hBP⟩ : ∃ x, x = bodyP 17 b := ⟨_, rfl⟩
        rw [← hSP, ← hDP, ← hEP, ← hBP]
        clear hBP
        have K9 : Hid (Below w.heap.size w u9 ∧ Blk u9 w.heap.size 24 #[.string ⟨#[]⟩, .string ⟨#[]⟩, .int .i64 0, .int .i64 0, .int .i64 0] ∧ Blk u9 gf 24 #[.string (bsL (aheadL ++ s)), .string (bsL (aheadL ++ d)), .int .i64 17, .int .i64 0, .int .i64 0]) := ⟨bel_trans HT.out.1 b9, HT.out.2.1.since b9, HT.out.2.2.since b9⟩
        clear b9 x0 x1 x2 x3 x4 y0 y1 y2 y3 y4 f0 f1 f2 f3 f4
        have x0 : u9.cell? ⟨w.heap.size, 0, none⟩ = some (.string ⟨#[]⟩) := K9.out.2.1.cell 0
        have x1 : u9.cell? ⟨w.heap.size, 1, none⟩ = some (.string ⟨#[]⟩) := K9.out.2.1.cell 1
        have x2 : u9.cell? ⟨w.heap.size, 2, none⟩ = some (.int .i64 0) := K9.out.2.1.cell 2
        have x3 : u9.cell? ⟨w.heap.size, 3, none⟩ = some (.int .i64 0) := K9.out.2.1.cell 3
        have x4 : u9.cell? ⟨w.heap.size, 4, none⟩ = some (.int .i64 0) := K9.out.2.1.cell 4
        have y0 := K9.out.2.1.frozen 0
        have y1 := K9.out.2.1.frozen 1
        have y2 := K9.out.2.1.frozen 2
        have y3 := K9.out.2.1.frozen 3
        have y4 := K9.out.2.1.frozen 4
        have f0 : u9.cell? ⟨gf, 0, none⟩ = some (.string (bsL (aheadL ++ s))) := K9.out.2.2.cell 0
        have f1 : u9.cell? ⟨gf, 1, none⟩ = some (.string (bsL (aheadL ++ d))) := K9.out.2.2.cell 1
        have f2 : u9.cell? ⟨gf, 2, none⟩ = some (.int .i64 17) := K9.out.2.2.cell 2
        have f3 : u9.cell? ⟨gf, 3, none⟩ = some (.int .i64 0) := K9.out.2.2.cell 3
        have f4 : u9.cell? ⟨gf, 4, none⟩ = some (.int .i64 0) := K9.out.2.2.cell 4
        have z0 := K9.out.2.2.frozen 0
        have z1 := K9.out.2.2.frozen 1
        have z2 := K9.out.2.2.frozen 2
        have z3 := K9.out.2.2.frozen 3
        have z4 := K9.out.2.2.frozen 4
        by_cases hc : EP = 0
        rotate_left
        · have q0 : ((EP : Int) != 0) = true := by simp; omega
          have E : Hid (ansOf l = ⟨zeroFw, EP⟩) := by
            show ansOf l = _
            rw [E.out, w_err (by decide) (by rw [← hEP]; exact hc), hEP]
          clear hc hSP hDP hEP
          go_wp2_with fail
          refine bodyPost_ret (v := .tuple #[.agg #[.string ⟨#[]⟩, .string ⟨#[]⟩, .int .i64 0, .int .i64 0, .int .i64 0], .int .i64 (EP : Int)]) ?_ rfl (gave_err (E := EP) E.out (put5_below K9.out.1 (Nat.le_refl _) _ _ _ _ _))
          have c5 := put5_blk (t := 24) K9.out.2.1 (.string ⟨#[]⟩) (.string ⟨#[]⟩) (.int .i64 0) (.int .i64 0) (.int .i64 0)
          have c50 := c5.cell 0
          have c51 := c5.cell 1
          have c52 := c5.cell 2
          have c53 := c5.cell 3
          have c54 := c5.cell 4
          change (results _ _).run _ (put5 u9 w.heap.size (.string ⟨#[]⟩) (.string ⟨#[]⟩) (.int .i64 0) (.int .i64 0) (.int .i64 0)) = .ok _ (put5 u9 w.heap.size (.string ⟨#[]⟩) (.string ⟨#[]⟩) (.int .i64 0) (.int .i64 0) (.int .i64 0))
          generalize put5 u9 w.heap.size (.string ⟨#[]⟩) (.string ⟨#[]⟩) (.int .i64 0) (.int .i64 0) (.int .i64 0) = W5 at c50 c51 c52 c53 c54
          simp [results, Try.results11, go_sem, c50, c51, c52, c53, c54]
        subst hc
        have E : Hid (ansOf l = ⟨⟨(aheadL ++ s), (aheadL ++ d), 17, SP, DP⟩, 0⟩) := by
          show ansOf l = _
          rw [E.out, w_ok (by decide) hEP.symm, hSP, hDP]
        clear hSP hDP hEP
        have KS : Hid (Blk ((u9.setCell ⟨gf, 3, none⟩ (.int .i64 (SP : Int))).setCell ⟨gf, 4, none⟩ (.int .i64 (DP : Int))) w.heap.size 24 #[.string ⟨#[]⟩, .string ⟨#[]⟩, .int .i64 0, .int .i64 0, .int .i64 0]) := (K9.out.2.1.other (by show w.heap.size ≠ gf; omega) _).other (by show w.heap.size ≠ gf; omega) _
        have BS : Hid (Below w.heap.size w ((u9.setCell ⟨gf, 3, none⟩ (.int .i64 (SP : Int))).setCell ⟨gf, 4, none⟩ (.int .i64 (DP : Int)))) := (K9.out.1.setCell (p := ⟨gf, 3, none⟩) (by show w.heap.size ≤ gf; omega) _).setCell (p := ⟨gf, 4, none⟩) (by show w.heap.size ≤ gf; omega) _
        go_wp2_with fail
        refine bodyPost_ret (v := .tuple #[.agg #[.string (bsL (aheadL ++ s)), .string (bsL (aheadL ++ d)), .int .i64 17, .int .i64 (SP : Int), .int .i64 (DP : Int)], .int .i64 0]) ?_ rfl ⟨(aheadL ++ s), (aheadL ++ d), 17, SP, DP, 0, rfl, E.out, put5_below BS.out (Nat.le_refl _) _ _ _ _ _⟩
        have c5 := put5_blk (t := 24) KS.out (.string (bsL (aheadL ++ s))) (.string (bsL (aheadL ++ d))) (.int .i64 17) (.int .i64 (SP : Int)) (.int .i64 (DP : Int))
        have c50 := c5.cell 0
        have c51 := c5.cell 1
        have c52 := c5.cell 2
        have c53 := c5.cell 3
        have c54 := c5.cell 4
        change (results _ _).run _ (put5 ((u9.setCell ⟨gf, 3, none⟩ (.int .i64 (SP : Int))).setCell ⟨gf, 4, none⟩ (.int .i64 (DP : Int))) w.heap.size (.string (bsL (aheadL ++ s))) (.string (bsL (aheadL ++ d))) (.int .i64 17) (.int .i64 (SP : Int)) (.int .i64 (DP : Int))) = .ok _ (put5 ((u9.setCell ⟨gf, 3, none⟩ (.int .i64 (SP : Int))).setCell ⟨gf, 4, none⟩ (.int .i64 (DP : Int))) w.heap.size (.string (bsL (aheadL ++ s))) (.string (bsL (aheadL ++ d))) (.int .i64 17) (.int .i64 (SP : Int)) (.int .i64 (DP : Int)))
        generalize put5 ((u9.setCell ⟨gf, 3, none⟩ (.int .i64 (SP : Int))).setCell ⟨gf, 4, none⟩ (.int .i64 (DP : Int))) w.heap.size (.string (bsL (aheadL ++ s))) (.string (bsL (aheadL ++ d))) (.int .i64 17) (.int .i64 (SP : Int)) (.int .i64 (DP : Int)) = W5 at c50 c51 c52 c53 c54
        simp [results, Try.results11, go_sem, c50, c51, c52, c53, c54]
end Go.Proofs.Yticopigpgaomjaa
