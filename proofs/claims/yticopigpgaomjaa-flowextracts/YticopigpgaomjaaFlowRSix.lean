/-
  The document's Extract of layer 9 (flow): frames of packets of version 6.
-/
import Derived.Test.YticopigpgaomjaaFlowTake
import Derived.Test.YticopigpgaomjaaEthRTake
import Derived.Test.YticopigpgaomjaaIp6RTake
import Derived.Test.YticopigpgaomjaaPortRTake
import Derived.Deep.Cut
import Derived.Deep.CutRange
namespace Go.Proofs.Yticopigpgaomjaa
open Go.RowKit Oc Pt Fl Go.Deep
set_option linter.unusedVariables false

set_option maxRecDepth 8000 in
set_option maxHeartbeats 12800000 in
theorem fl_rx_six (w : World) (l : List UInt8) (hl : l.length ≤ 1152921504606846976) (hm : l.length ≤ 2048) (hN : Et.takeE l = 0 ∧ (Et.frOf l).T = 34525) : Calls Try.prog 11 #[.string (bsL l)] w (Gave w (ansOf l)) := by
  have B0 : Hid (Below w.heap.size w (w.alloc (.cells #[.string ⟨#[]⟩, .string ⟨#[]⟩, .int .i64 0, .int .i64 0, .int .i64 0] 24))) := bel_alloc _ _
  have K0 : Hid (Blk (w.alloc (.cells #[.string ⟨#[]⟩, .string ⟨#[]⟩, .int .i64 0, .int .i64 0, .int .i64 0] 24)) w.heap.size 24 #[.string ⟨#[]⟩, .string ⟨#[]⟩, .int .i64 0, .int .i64 0, .int .i64 0]) := Blk.new _ _ _
  have h1 : ¬ 2048 < l.length := by omega
  have HN : Hid (_) := hN
  clear hN
  go_enter Try.func11, Try.ntmps11
  go_wp2_with fail
  refine (L5.rtake_any _ l hl).mono ?_
  rintro e u1 ⟨x, rfl, hx, b1⟩
  obtain ⟨v, rfl, ht⟩ := hx
  obtain ⟨A, cap, rfl⟩ := ht.form
  clear ht
  obtain ⟨n, hn⟩ : ∃ n, n = (Et.frOf l).n := ⟨_, rfl⟩
  obtain ⟨dd, hdd⟩ : ∃ x, x = (Et.frOf l).d := ⟨_, rfl⟩
  obtain ⟨ds, hds⟩ : ∃ x, x = (Et.frOf l).s := ⟨_, rfl⟩
  obtain ⟨TT, hT⟩ : ∃ x, x = (Et.frOf l).T := ⟨_, rfl⟩
  obtain ⟨r, hr⟩ : ∃ x, x = Et.restOf l := ⟨_, rfl⟩
  obtain ⟨c, hc⟩ : ∃ x, x = Et.takeE l := ⟨_, rfl⟩
  rw [← hn, ← hdd, ← hds, ← hT, ← hr, ← hc]
  have hrl : r.length ≤ 1152921504606846976 := by rw [hr]; exact Nat.le_trans (rest_len l) hl
  have HL : Hid (TT = (Et.frOf l).T ∧ r = Et.restOf l ∧ c = Et.takeE l) := ⟨hT, hr, hc⟩
  clear hn hdd hds hT hr hc
  have K1 : Hid (Blk u1 w.heap.size 24 #[.string ⟨#[]⟩, .string ⟨#[]⟩, .int .i64 0, .int .i64 0, .int .i64 0]) := K0.out.since b1
  have B1 : Hid (Below w.heap.size w u1) := bel_trans B0.out b1
  have hsz : w.heap.size < u1.heap.size := K1.out.lt
  clear b1
  have x0 : u1.cell? ⟨w.heap.size, 0, none⟩ = some (.string ⟨#[]⟩) := K1.out.cell 0
  have x1 : u1.cell? ⟨w.heap.size, 1, none⟩ = some (.string ⟨#[]⟩) := K1.out.cell 1
  have x2 : u1.cell? ⟨w.heap.size, 2, none⟩ = some (.int .i64 0) := K1.out.cell 2
  have x3 : u1.cell? ⟨w.heap.size, 3, none⟩ = some (.int .i64 0) := K1.out.cell 3
  have x4 : u1.cell? ⟨w.heap.size, 4, none⟩ = some (.int .i64 0) := K1.out.cell 4
  have y0 := K1.out.frozen 0
  have y1 := K1.out.frozen 1
  have y2 := K1.out.frozen 2
  have y3 := K1.out.frozen 3
  have y4 := K1.out.frozen 4
  have h0 : c = 0 := by rw [HL.out.2.2]; exact HN.out.1
  have h2 : TT = 34525 := by rw [HL.out.1]; exact HN.out.2
  clear HN
  subst h0
  have EX : Hid (ansOf l = ansP (pkOf TT r)) := by
    show ansOf l = _
    rw [of_pk hm HL.out.2.2.symm, HL.out.1, HL.out.2.1]
  clear HL
  have K2 : Hid (Blk ((u1.alloc (.cells #[.string (bsL dd), .string (bsL ds), .slice A n cap, .int .i64 TT] 58)).alloc (.cells #[.string ⟨#[]⟩, .string ⟨#[]⟩, .int .i64 0, .int .i64 0, .int .i64 0] 24)) w.heap.size 24 #[.string ⟨#[]⟩, .string ⟨#[]⟩, .int .i64 0, .int .i64 0, .int .i64 0]) := (K1.out.alloc _).alloc _
  have B2 : Hid (Below w.heap.size w ((u1.alloc (.cells #[.string (bsL dd), .string (bsL ds), .slice A n cap, .int .i64 TT] 58)).alloc (.cells #[.string ⟨#[]⟩, .string ⟨#[]⟩, .int .i64 0, .int .i64 0, .int .i64 0] 24))) := bel_trans (bel_trans B1.out (bel_alloc _ _)) (bel_alloc _ _)
  have KF : Hid (Blk ((u1.alloc (.cells #[.string (bsL dd), .string (bsL ds), .slice A n cap, .int .i64 TT] 58)).alloc (.cells #[.string ⟨#[]⟩, .string ⟨#[]⟩, .int .i64 0, .int .i64 0, .int .i64 0] 24)) (u1.heap.size + 1) 24 #[.string ⟨#[]⟩, .string ⟨#[]⟩, .int .i64 0, .int .i64 0, .int .i64 0]) := by
    have e := Blk.new (u1.alloc (.cells #[.string (bsL dd), .string (bsL ds), .slice A n cap, .int .i64 TT] 58)) 24 #[.string ⟨#[]⟩, .string ⟨#[]⟩, .int .i64 0, .int .i64 0, .int .i64 0]
    show Blk _ _ _ _
    simpa using e
  subst h2
  have EX6 : Hid (ansOf l = ansP (pk6 r)) := by rw [← of_six]; exact EX.out
  clear EX
  go_wp2_with fail
  refine (L7.prtake_any _ r hrl).mono ?_
  rintro e u2 ⟨cc, lb, hp, p, s, d, C, A7, n7, cap7, b, c, rfl, hx, hch, b2⟩
  have K3 : Hid (Below w.heap.size w u2 ∧ Blk u2 w.heap.size 24 #[.string ⟨#[]⟩, .string ⟨#[]⟩, .int .i64 0, .int .i64 0, .int .i64 0] ∧ Blk u2 (u1.heap.size + 1) 24 #[.string ⟨#[]⟩, .string ⟨#[]⟩, .int .i64 0, .int .i64 0, .int .i64 0]) := ⟨bel_trans B2.out b2, K2.out.since b2, KF.out.since b2⟩
  have hs3 : w.heap.size < u2.heap.size := K3.out.2.1.lt
  have hs4 : u1.heap.size + 1 < u2.heap.size := K3.out.2.2.lt
  have hgf : w.heap.size < u1.heap.size + 1 := by omega
  clear b2 K2 B2 KF x0 x1 x2 x3 x4 y0 y1 y2 y3 y4
  generalize u1.heap.size + 1 = gf at K3 hs4 hgf ⊢
  by_cases hc : c = 0
  rotate_left
  · have q0 : ((c : Int) != 0) = true := by simp; omega
    have E : Hid (ansOf l = ⟨zeroFw, c⟩) := by
      rw [EX6.out, six_err (by rw [hx.2.2.1]; exact hc), hx.2.2.1]
      exact p_err hc
    clear hx hc hch
    have x0 : u2.cell? ⟨w.heap.size, 0, none⟩ = some (.string ⟨#[]⟩) := K3.out.2.1.cell 0
    have x1 : u2.cell? ⟨w.heap.size, 1, none⟩ = some (.string ⟨#[]⟩) := K3.out.2.1.cell 1
    have x2 : u2.cell? ⟨w.heap.size, 2, none⟩ = some (.int .i64 0) := K3.out.2.1.cell 2
    have x3 : u2.cell? ⟨w.heap.size, 3, none⟩ = some (.int .i64 0) := K3.out.2.1.cell 3
    have x4 : u2.cell? ⟨w.heap.size, 4, none⟩ = some (.int .i64 0) := K3.out.2.1.cell 4
    have y0 := K3.out.2.1.frozen 0
    have y1 := K3.out.2.1.frozen 1
    have y2 := K3.out.2.1.frozen 2
    have y3 := K3.out.2.1.frozen 3
    have y4 := K3.out.2.1.frozen 4
    have f0 : u2.cell? ⟨gf, 0, none⟩ = some (.string ⟨#[]⟩) := K3.out.2.2.cell 0
    have f1 : u2.cell? ⟨gf, 1, none⟩ = some (.string ⟨#[]⟩) := K3.out.2.2.cell 1
    have f2 : u2.cell? ⟨gf, 2, none⟩ = some (.int .i64 0) := K3.out.2.2.cell 2
    have f3 : u2.cell? ⟨gf, 3, none⟩ = some (.int .i64 0) := K3.out.2.2.cell 3
    have f4 : u2.cell? ⟨gf, 4, none⟩ = some (.int .i64 0) := K3.out.2.2.cell 4
    go_wp2_with fail
    refine bodyPost_ret (v := .tuple #[.agg #[.string ⟨#[]⟩, .string ⟨#[]⟩, .int .i64 0, .int .i64 0, .int .i64 0], .int .i64 (c : Int)]) ?_ rfl (gave_err (E := c) E.out (bel_trans (put5_below K3.out.1 (Nat.le_refl _) _ _ _ _ _) (bel_alloc _ _)))
    have c5 := (put5_blk (t := 24) K3.out.2.1 (.string ⟨#[]⟩) (.string ⟨#[]⟩) (.int .i64 0) (.int .i64 0) (.int .i64 0)).alloc (.cells #[.int .i64 cc, .int .i64 lb, .int .i64 hp, .int .i64 p, .string (bsL s), .string (bsL d), .slice A7 n7 cap7] 66)
    have c50 := c5.cell 0
    have c51 := c5.cell 1
    have c52 := c5.cell 2
    have c53 := c5.cell 3
    have c54 := c5.cell 4
    change (results _ _).run _ ((put5 u2 w.heap.size (.string ⟨#[]⟩) (.string ⟨#[]⟩) (.int .i64 0) (.int .i64 0) (.int .i64 0)).alloc (.cells #[.int .i64 cc, .int .i64 lb, .int .i64 hp, .int .i64 p, .string (bsL s), .string (bsL d), .slice A7 n7 cap7] 66)) = .ok _ ((put5 u2 w.heap.size (.string ⟨#[]⟩) (.string ⟨#[]⟩) (.int .i64 0) (.int .i64 0) (.int .i64 0)).alloc (.cells #[.int .i64 cc, .int .i64 lb, .int .i64 hp, .int .i64 p, .string (bsL s), .string (bsL d), .slice A7 n7 cap7] 66))
    generalize (put5 u2 w.heap.size (.string ⟨#[]⟩) (.string ⟨#[]⟩) (.int .i64 0) (.int .i64 0) (.int .i64 0)).alloc (.cells #[.int .i64 cc, .int .i64 lb, .int .i64 hp, .int .i64 p, .string (bsL s), .string (bsL d), .slice A7 n7 cap7] 66) = W5 at c50 c51 c52 c53 c54
    simp [results, Try.results11, go_sem, c50, c51, c52, c53, c54]
  subst hc
  have HX : Hid (Ip6.hdOf r = ⟨cc, lb, hp, p, s, d, C⟩ ∧ Ip6.bodyOf r = b ∧ Ip6.takeE r = 0) := ⟨hx.1, hx.2.1, hx.2.2.1⟩
  have HC : Hid (L7.HdAt (u2.alloc (.cells #[.int .i64 cc, .int .i64 lb, .int .i64 hp, .int .i64 p, .string (bsL s), .string (bsL d), .slice A7 n7 cap7] 66)) (.agg #[.int .i64 cc, .int .i64 lb, .int .i64 hp, .int .i64 p, .string (bsL s), .string (bsL d), .slice A7 n7 cap7]) ⟨cc, lb, hp, p, s, d, C⟩) := ⟨_, rfl, hch.keep (keep_of_below (bel_alloc _ _))⟩
  have HN : Hid (C.length ≤ 8 ∧ ∀ (i : Nat) (x : Ip6.Ex), C[i]? = some x → x.data.length ≤ 2046) := ch6 hx.1
  have hbl : Hid (b.length ≤ 1152921504606846976) := by
    show b.length ≤ _
    rw [← hx.2.1]
    exact Nat.le_trans (body6_len r) hrl
  clear hx hch
  have x0 : u2.cell? ⟨w.heap.size, 0, none⟩ = some (.string ⟨#[]⟩) := K3.out.2.1.cell 0
  have x1 : u2.cell? ⟨w.heap.size, 1, none⟩ = some (.string ⟨#[]⟩) := K3.out.2.1.cell 1
  have x2 : u2.cell? ⟨w.heap.size, 2, none⟩ = some (.int .i64 0) := K3.out.2.1.cell 2
  have x3 : u2.cell? ⟨w.heap.size, 3, none⟩ = some (.int .i64 0) := K3.out.2.1.cell 3
  have x4 : u2.cell? ⟨w.heap.size, 4, none⟩ = some (.int .i64 0) := K3.out.2.1.cell 4
  have y0 := K3.out.2.1.frozen 0
  have y1 := K3.out.2.1.frozen 1
  have y2 := K3.out.2.1.frozen 2
  have y3 := K3.out.2.1.frozen 3
  have y4 := K3.out.2.1.frozen 4
  have f0 : u2.cell? ⟨gf, 0, none⟩ = some (.string ⟨#[]⟩) := K3.out.2.2.cell 0
  have f1 : u2.cell? ⟨gf, 1, none⟩ = some (.string ⟨#[]⟩) := K3.out.2.2.cell 1
  have f2 : u2.cell? ⟨gf, 2, none⟩ = some (.int .i64 0) := K3.out.2.2.cell 2
  have f3 : u2.cell? ⟨gf, 3, none⟩ = some (.int .i64 0) := K3.out.2.2.cell 3
  have f4 : u2.cell? ⟨gf, 4, none⟩ = some (.int .i64 0) := K3.out.2.2.cell 4
  go_wp2_with fail
  refine (L7.rpiece_any _ _ _ HC.out (Nat.le_trans HN.out.1 (by decide))).mono ?_
  rintro e u3 ⟨B, rfl, hB, b3⟩
  have HV : Hid (Below w.heap.size w u3 ∧ Blk u3 w.heap.size 24 #[.string ⟨#[]⟩, .string ⟨#[]⟩, .int .i64 0, .int .i64 0, .int .i64 0] ∧ Blk u3 gf 24 #[.string ⟨#[]⟩, .string ⟨#[]⟩, .int .i64 0, .int .i64 0, .int .i64 0] ∧ Blk u3 u2.heap.size 66 #[.int .i64 cc, .int .i64 lb, .int .i64 hp, .int .i64 p, .string (bsL s), .string (bsL d), .slice A7 n7 cap7]) := ⟨bel_trans (bel_trans K3.out.1 (bel_alloc _ _)) b3, (K3.out.2.1.alloc _).since b3, (K3.out.2.2.alloc _).since b3, (Blk.new _ _ _).since b3⟩
  have hgx : gf < u2.heap.size := hs4
  generalize u2.heap.size = gx at HV hgx ⊢
  clear b3 K3 HC HN hs3 hs4 x0 x1 x2 x3 x4 y0 y1 y2 y3 y4 f0 f1 f2 f3 f4
  have f0 : u3.cell? ⟨gf, 0, none⟩ = some (.string ⟨#[]⟩) := HV.out.2.2.1.cell 0
  have f1 : u3.cell? ⟨gf, 1, none⟩ = some (.string ⟨#[]⟩) := HV.out.2.2.1.cell 1
  have f2 : u3.cell? ⟨gf, 2, none⟩ = some (.int .i64 0) := HV.out.2.2.1.cell 2
  have f3 : u3.cell? ⟨gf, 3, none⟩ = some (.int .i64 0) := HV.out.2.2.1.cell 3
  have f4 : u3.cell? ⟨gf, 4, none⟩ = some (.int .i64 0) := HV.out.2.2.1.cell 4
  have z0 := HV.out.2.2.1.frozen 0
  have z1 := HV.out.2.2.1.frozen 1
  have z2 := HV.out.2.2.1.frozen 2
  have z3 := HV.out.2.2.1.frozen 3
  have z4 := HV.out.2.2.1.frozen 4
  cases B
  rotate_left
  · have E : Hid (ansOf l = ⟨zeroFw, 14⟩) := by
      have h := (piece_iff _).1 (hB.1 rfl)
      rw [EX6.out, six_piece HX.out.2.2 (by rw [HX.out.1]; exact h)]
      exact p_err (by decide)
    clear hB
    have x0 : u3.cell? ⟨w.heap.size, 0, none⟩ = some (.string ⟨#[]⟩) := HV.out.2.1.cell 0
    have x1 : u3.cell? ⟨w.heap.size, 1, none⟩ = some (.string ⟨#[]⟩) := HV.out.2.1.cell 1
    have x2 : u3.cell? ⟨w.heap.size, 2, none⟩ = some (.int .i64 0) := HV.out.2.1.cell 2
    have x3 : u3.cell? ⟨w.heap.size, 3, none⟩ = some (.int .i64 0) := HV.out.2.1.cell 3
    have x4 : u3.cell? ⟨w.heap.size, 4, none⟩ = some (.int .i64 0) := HV.out.2.1.cell 4
    have y0 := HV.out.2.1.frozen 0
    have y1 := HV.out.2.1.frozen 1
    have y2 := HV.out.2.1.frozen 2
    have y3 := HV.out.2.1.frozen 3
    have y4 := HV.out.2.1.frozen 4
    go_wp2_with fail
    refine bodyPost_ret (v := .tuple #[.agg #[.string ⟨#[]⟩, .string ⟨#[]⟩, .int .i64 0, .int .i64 0, .int .i64 0], .int .i64 14]) ?_ rfl (gave_err (E := 14) E.out (put5_below HV.out.1 (Nat.le_refl _) _ _ _ _ _))
    have c5 := put5_blk (t := 24) HV.out.2.1 (.string ⟨#[]⟩) (.string ⟨#[]⟩) (.int .i64 0) (.int .i64 0) (.int .i64 0)
    have c50 := c5.cell 0
    have c51 := c5.cell 1
    have c52 := c5.cell 2
    have c53 := c5.cell 3
    have c54 := c5.cell 4
    change (results _ _).run _ (put5 u3 w.heap.size (.string ⟨#[]⟩) (.string ⟨#[]⟩) (.int .i64 0) (.int .i64 0) (.int .i64 0)) = .ok _ (put5 u3 w.heap.size (.string ⟨#[]⟩) (.string ⟨#[]⟩) (.int .i64 0) (.int .i64 0) (.int .i64 0))
    generalize put5 u3 w.heap.size (.string ⟨#[]⟩) (.string ⟨#[]⟩) (.int .i64 0) (.int .i64 0) (.int .i64 0) = W5 at c50 c51 c52 c53 c54
    simp [results, Try.results11, go_sem, c50, c51, c52, c53, c54]
  have E : Hid (ansOf l = ansW s d p b) := by
    have h : pieceB C = false := by
      cases e : pieceB C
      · rfl
      · exact absurd (hB.2 ((piece_iff _).2 e)) (by simp)
    rw [EX6.out, six_ok HX.out.2.2 (by rw [HX.out.1]; exact h), HX.out.1, HX.out.2.1]
    exact p_ok rfl
  clear hB HX EX6
  have m3 : u3.cell? ⟨gx, 3, none⟩ = some (.int .i64 p) := HV.out.2.2.2.cell 3
  have m4 : u3.cell? ⟨gx, 4, none⟩ = some (.string (bsL s)) := HV.out.2.2.2.cell 4
  have m5 : u3.cell? ⟨gx, 5, none⟩ = some (.string (bsL d)) := HV.out.2.2.2.cell 5
  go_upto_region 25 with fail
  go_cut [8] from 88 (fun s8 wx => s8 = .string ⟨#[]⟩ ∧ Below w.heap.size w wx ∧ Blk wx w.heap.size 24 #[.string ⟨#[]⟩, .string ⟨#[]⟩, .int .i64 0, .int .i64 0, .int .i64 0] ∧ Blk wx gf 24 #[.string (bsL s), .string (bsL d), .int .i64 p, .int .i64 0, .int .i64 0])
  case first =>
    go_region
    all_goals
      go_wp2_with fail
      go_meet
      case rel =>
        refine ⟨rfl, ?_, ?_, ?_⟩
        · exact ((HV.out.1.drew.setCell (p := ⟨gf, _, none⟩) (by show w.heap.size ≤ gf; omega) _).setCell (p := ⟨gf, _, none⟩) (by show w.heap.size ≤ gf; omega) _).setCell (p := ⟨gf, _, none⟩) (by show w.heap.size ≤ gf; omega) _
        · exact ((HV.out.2.1.other (by show w.heap.size ≠ gf; omega) _).other (by show w.heap.size ≠ gf; omega) _).other (by show w.heap.size ≠ gf; omega) _
        · first | exact ((HV.out.2.2.1.set 0 _).set 1 _).set 2 _ | exact ((HV.out.2.2.1.set 0 _).set 2 _).set 1 _ | exact ((HV.out.2.2.1.set 1 _).set 0 _).set 2 _ | exact ((HV.out.2.2.1.set 1 _).set 2 _).set 0 _ | exact ((HV.out.2.2.1.set 2 _).set 0 _).set 1 _ | exact ((HV.out.2.2.1.set 2 _).set 1 _).set 0 _
  case rest =>
    clear HV m3 m4 m5 f0 f1 f2 f3 f4 z0 z1 z2 z3 z4
    obtain ⟨rfl, hc1, hc2, hc3⟩ := hcut
    have HT : Hid (Below w.heap.size w wc ∧ Blk wc w.heap.size 24 #[.string ⟨#[]⟩, .string ⟨#[]⟩, .int .i64 0, .int .i64 0, .int .i64 0] ∧ Blk wc gf 24 #[.string (bsL s), .string (bsL d), .int .i64 p, .int .i64 0, .int .i64 0]) := ⟨hc1, hc2, hc3⟩
    clear hc1 hc2 hc3
    by_cases hp : p = 6 ∨ p = 17
    rotate_left
    · have q1 : (p == 6) = false := by simp; omega
      have q2 : (p == 17) = false := by simp; omega
      have E : Hid (ansOf l = ⟨⟨s, d, p, 0, 0⟩, 0⟩) := by rw [E.out]; exact w_none hp
      clear hp
      have x0 : wc.cell? ⟨w.heap.size, 0, none⟩ = some (.string ⟨#[]⟩) := HT.out.2.1.cell 0
      have x1 : wc.cell? ⟨w.heap.size, 1, none⟩ = some (.string ⟨#[]⟩) := HT.out.2.1.cell 1
      have x2 : wc.cell? ⟨w.heap.size, 2, none⟩ = some (.int .i64 0) := HT.out.2.1.cell 2
      have x3 : wc.cell? ⟨w.heap.size, 3, none⟩ = some (.int .i64 0) := HT.out.2.1.cell 3
      have x4 : wc.cell? ⟨w.heap.size, 4, none⟩ = some (.int .i64 0) := HT.out.2.1.cell 4
      have y0 := HT.out.2.1.frozen 0
      have y1 := HT.out.2.1.frozen 1
      have y2 := HT.out.2.1.frozen 2
      have y3 := HT.out.2.1.frozen 3
      have y4 := HT.out.2.1.frozen 4
      have f0 : wc.cell? ⟨gf, 0, none⟩ = some (.string (bsL s)) := HT.out.2.2.cell 0
      have f1 : wc.cell? ⟨gf, 1, none⟩ = some (.string (bsL d)) := HT.out.2.2.cell 1
      have f2 : wc.cell? ⟨gf, 2, none⟩ = some (.int .i64 p) := HT.out.2.2.cell 2
      have f3 : wc.cell? ⟨gf, 3, none⟩ = some (.int .i64 0) := HT.out.2.2.cell 3
      have f4 : wc.cell? ⟨gf, 4, none⟩ = some (.int .i64 0) := HT.out.2.2.cell 4
      go_wp2_with fail
      refine bodyPost_ret (v := .tuple #[.agg #[.string (bsL s), .string (bsL d), .int .i64 p, .int .i64 0, .int .i64 0], .int .i64 0]) ?_ rfl ⟨s, d, p, 0, 0, 0, rfl, E.out, put5_below HT.out.1 (Nat.le_refl _) _ _ _ _ _⟩
      have c5 := put5_blk (t := 24) HT.out.2.1 (.string (bsL s)) (.string (bsL d)) (.int .i64 p) (.int .i64 0) (.int .i64 0)
      have c50 := c5.cell 0
      have c51 := c5.cell 1
      have c52 := c5.cell 2
      have c53 := c5.cell 3
      have c54 := c5.cell 4
      change (results _ _).run _ (put5 wc w.heap.size (.string (bsL s)) (.string (bsL d)) (.int .i64 p) (.int .i64 0) (.int .i64 0)) = .ok _ (put5 wc w.heap.size (.string (bsL s)) (.string (bsL d)) (.int .i64 p) (.int .i64 0) (.int .i64 0))
      generalize put5 wc w.heap.size (.string (bsL s)) (.string (bsL d)) (.int .i64 p) (.int .i64 0) (.int .i64 0) = W5 at c50 c51 c52 c53 c54
      simp [results, Try.results11, go_sem, c50, c51, c52, c53, c54]
    rcases hp with rfl | rfl
    · have x0 : wc.cell? ⟨w.heap.size, 0, none⟩ = some (.string ⟨#[]⟩) := HT.out.2.1.cell 0
      have x1 : wc.cell? ⟨w.heap.size, 1, none⟩ = some (.string ⟨#[]⟩) := HT.out.2.1.cell 1
      have x2 : wc.cell? ⟨w.heap.size, 2, none⟩ = some (.int .i64 0) := HT.out.2.1.cell 2
      have x3 : wc.cell? ⟨w.heap.size, 3, none⟩ = some (.int .i64 0) := HT.out.2.1.cell 3
      have x4 : wc.cell? ⟨w.heap.size, 4, none⟩ = some (.int .i64 0) := HT.out.2.1.cell 4
      have y0 := HT.out.2.1.frozen 0
      have y1 := HT.out.2.1.frozen 1
      have y2 := HT.out.2.1.frozen 2
      have y3 := HT.out.2.1.frozen 3
      have y4 := HT.out.2.1.frozen 4
      have f0 : wc.cell? ⟨gf, 0, none⟩ = some (.string (bsL s)) := HT.out.2.2.cell 0
      have f1 : wc.cell? ⟨gf, 1, none⟩ = some (.string (bsL d)) := HT.out.2.2.cell 1
      have f2 : wc.cell? ⟨gf, 2, none⟩ = some (.int .i64 6) := HT.out.2.2.cell 2
      have f3 : wc.cell? ⟨gf, 3, none⟩ = some (.int .i64 0) := HT.out.2.2.cell 3
      have f4 : wc.cell? ⟨gf, 4, none⟩ = some (.int .i64 0) := HT.out.2.2.cell 4
      go_wp2_with fail
      refine (port_rtake 6 b _ hbl.out).mono ?_
      rintro e u9 ⟨rfl, b9⟩
      obtain ⟨SP, hSP⟩ : ∃ x, x = srcP 6 b := ⟨_, rfl⟩
      obtain ⟨DP, hDP⟩ : ∃ x, x = dstP 6 b := ⟨_, rfl⟩
      obtain ⟨EP, hEP⟩ : ∃ x, x = errP 6 b := ⟨_, rfl⟩
      obtain ⟨BP, hBP⟩ : ∃ x, x = bodyP 6 b := ⟨_, rfl⟩
      rw [← hSP, ← hDP, ← hEP, ← hBP]
      clear hBP
      have K9 : Hid (Below w.heap.size w u9 ∧ Blk u9 w.heap.size 24 #[.string ⟨#[]⟩, .string ⟨#[]⟩, .int .i64 0, .int .i64 0, .int .i64 0] ∧ Blk u9 gf 24 #[.string (bsL s), .string (bsL d), .int .i64 6, .int .i64 0, .int .i64 0]) := ⟨bel_trans HT.out.1 b9, HT.out.2.1.since b9, HT.out.2.2.since b9⟩
      clear b9 x0 x1 x2 x3 x4 y0 y1 y2 y3 y4 f0 f1 f2 f3 f4
      have x0 : u9.cell? ⟨w.heap.size, 0, none⟩ = some (.string ⟨#[]⟩) := K9.out.2.1.cell 0
      have x1 : u9.cell? ⟨w.heap.size, 1, none⟩ = some (.string ⟨#[]⟩) := K9.out.2.1.cell 1
      have x2 : u9.cell? ⟨w.heap.size, 2, none⟩ = some (.int .i64 0) := K9.out.2.1.cell 2
      have x3 : u9.cell? ⟨w.heap.size, 3, none⟩ = some (.int .i64 0) := K9.out.2.1.cell 3
      have x4 : u9.cell? ⟨w.heap.size, 4, none⟩ = some (.int .i64 0) := K9.out.2.1.cell 4
      have y0 := K9.out.2.1.frozen 0
      have y1 := K9.out.2.1.frozen 1
      have y2 := K9.out.2.1.frozen 2
      have y3 := K9.out.2.1.frozen 3
      have y4 := K9.out.2.1.frozen 4
      have f0 : u9.cell? ⟨gf, 0, none⟩ = some (.string (bsL s)) := K9.out.2.2.cell 0
      have f1 : u9.cell? ⟨gf, 1, none⟩ = some (.string (bsL d)) := K9.out.2.2.cell 1
      have f2 : u9.cell? ⟨gf, 2, none⟩ = some (.int .i64 6) := K9.out.2.2.cell 2
      have f3 : u9.cell? ⟨gf, 3, none⟩ = some (.int .i64 0) := K9.out.2.2.cell 3
      have f4 : u9.cell? ⟨gf, 4, none⟩ = some (.int .i64 0) := K9.out.2.2.cell 4
      have z0 := K9.out.2.2.frozen 0
      have z1 := K9.out.2.2.frozen 1
      have z2 := K9.out.2.2.frozen 2
      have z3 := K9.out.2.2.frozen 3
      have z4 := K9.out.2.2.frozen 4
      by_cases hc : EP = 0
      rotate_left
      · have q0 : ((EP : Int) != 0) = true := by simp; omega
        have E : Hid (ansOf l = ⟨zeroFw, EP⟩) := by
          show ansOf l = _
          rw [E.out, w_err (by decide) (by rw [← hEP]; exact hc), hEP]
        clear hc hSP hDP hEP
        go_wp2_with fail
        refine bodyPost_ret (v := .tuple #[.agg #[.string ⟨#[]⟩, .string ⟨#[]⟩, .int .i64 0, .int .i64 0, .int .i64 0], .int .i64 (EP : Int)]) ?_ rfl (gave_err (E := EP) E.out (put5_below K9.out.1 (Nat.le_refl _) _ _ _ _ _))
        have c5 := put5_blk (t := 24) K9.out.2.1 (.string ⟨#[]⟩) (.string ⟨#[]⟩) (.int .i64 0) (.int .i64 0) (.int .i64 0)
        have c50 := c5.cell 0
        have c51 := c5.cell 1
        have c52 := c5.cell 2
        have c53 := c5.cell 3
        have c54 := c5.cell 4
        change (results _ _).run _ (put5 u9 w.heap.size (.string ⟨#[]⟩) (.string ⟨#[]⟩) (.int .i64 0) (.int .i64 0) (.int .i64 0)) = .ok _ (put5 u9 w.heap.size (.string ⟨#[]⟩) (.string ⟨#[]⟩) (.int .i64 0) (.int .i64 0) (.int .i64 0))
        generalize put5 u9 w.heap.size (.string ⟨#[]⟩) (.string ⟨#[]⟩) (.int .i64 0) (.int .i64 0) (.int .i64 0) = W5 at c50 c51 c52 c53 c54
        simp [results, Try.results11, go_sem, c50, c51, c52, c53, c54]
      subst hc
      have E : Hid (ansOf l = ⟨⟨s, d, 6, SP, DP⟩, 0⟩) := by
        show ansOf l = _
        rw [E.out, w_ok (by decide) hEP.symm, hSP, hDP]
      clear hSP hDP hEP
      have KS : Hid (Blk ((u9.setCell ⟨gf, 3, none⟩ (.int .i64 (SP : Int))).setCell ⟨gf, 4, none⟩ (.int .i64 (DP : Int))) w.heap.size 24 #[.string ⟨#[]⟩, .string ⟨#[]⟩, .int .i64 0, .int .i64 0, .int .i64 0]) := (K9.out.2.1.other (by show w.heap.size ≠ gf; omega) _).other (by show w.heap.size ≠ gf; omega) _
      have BS : Hid (Below w.heap.size w ((u9.setCell ⟨gf, 3, none⟩ (.int .i64 (SP : Int))).setCell ⟨gf, 4, none⟩ (.int .i64 (DP : Int)))) := (K9.out.1.setCell (p := ⟨gf, 3, none⟩) (by show w.heap.size ≤ gf; omega) _).setCell (p := ⟨gf, 4, none⟩) (by show w.heap.size ≤ gf; omega) _
      go_wp2_with fail
      refine bodyPost_ret (v := .tuple #[.agg #[.string (bsL s), .string (bsL d), .int .i64 6, .int .i64 (SP : Int), .int .i64 (DP : Int)], .int .i64 0]) ?_ rfl ⟨s, d, 6, SP, DP, 0, rfl, E.out, put5_below BS.out (Nat.le_refl _) _ _ _ _ _⟩
      have c5 := put5_blk (t := 24) KS.out (.string (bsL s)) (.string (bsL d)) (.int .i64 6) (.int .i64 (SP : Int)) (.int .i64 (DP : Int))
      have c50 := c5.cell 0
      have c51 := c5.cell 1
      have c52 := c5.cell 2
      have c53 := c5.cell 3
      have c54 := c5.cell 4
      change (results _ _).run _ (put5 ((u9.setCell ⟨gf, 3, none⟩ (.int .i64 (SP : Int))).setCell ⟨gf, 4, none⟩ (.int .i64 (DP : Int))) w.heap.size (.string (bsL s)) (.string (bsL d)) (.int .i64 6) (.int .i64 (SP : Int)) (.int .i64 (DP : Int))) = .ok _ (put5 ((u9.setCell ⟨gf, 3, none⟩ (.int .i64 (SP : Int))).setCell ⟨gf, 4, none⟩ (.int .i64 (DP : Int))) w.heap.size (.string (bsL s)) (.string (bsL d)) (.int .i64 6) (.int .i64 (SP : Int)) (.int .i64 (DP : Int)))
      generalize put5 ((u9.setCell ⟨gf, 3, none⟩ (.int .i64 (SP : Int))).setCell ⟨gf, 4, none⟩ (.int .i64 (DP : Int))) w.heap.size (.string (bsL s)) (.string (bsL d)) (.int .i64 6) (.int .i64 (SP : Int)) (.int .i64 (DP : Int)) = W5 at c50 c51 c52 c53 c54
      simp [results, Try.results11, go_sem, c50, c51, c52, c53, c54]
    · have x0 : wc.cell? ⟨w.heap.size, 0, none⟩ = some (.string ⟨#[]⟩) := HT.out.2.1.cell 0
      have x1 : wc.cell? ⟨w.heap.size, 1, none⟩ = some (.string ⟨#[]⟩) := HT.out.2.1.cell 1
      have x2 : wc.cell? ⟨w.heap.size, 2, none⟩ = some (.int .i64 0) := HT.out.2.1.cell 2
      have x3 : wc.cell? ⟨w.heap.size, 3, none⟩ = some (.int .i64 0) := HT.out.2.1.cell 3
      have x4 : wc.cell? ⟨w.heap.size, 4, none⟩ = some (.int .i64 0) := HT.out.2.1.cell 4
      have y0 := HT.out.2.1.frozen 0
      have y1 := HT.out.2.1.frozen 1
      have y2 := HT.out.2.1.frozen 2
      have y3 := HT.out.2.1.frozen 3
      have y4 := HT.out.2.1.frozen 4
      have f0 : wc.cell? ⟨gf, 0, none⟩ = some (.string (bsL s)) := HT.out.2.2.cell 0
      have f1 : wc.cell? ⟨gf, 1, none⟩ = some (.string (bsL d)) := HT.out.2.2.cell 1
      have f2 : wc.cell? ⟨gf, 2, none⟩ = some (.int .i64 17) := HT.out.2.2.cell 2
      have f3 : wc.cell? ⟨gf, 3, none⟩ = some (.int .i64 0) := HT.out.2.2.cell 3
      have f4 : wc.cell? ⟨gf, 4, none⟩ = some (.int .i64 0) := HT.out.2.2.cell 4
      go_wp2_with fail
      refine (port_rtake 17 b _ hbl.out).mono ?_
      rintro e u9 ⟨rfl, b9⟩
      obtain ⟨SP, hSP⟩ : ∃ x, x = srcP 17 b := ⟨_, rfl⟩
      obtain ⟨DP, hDP⟩ : ∃ x, x = dstP 17 b := ⟨_, rfl⟩
      obtain ⟨EP, hEP⟩ : ∃ x, x = errP 17 b := ⟨_, rfl⟩
      obtain ⟨BP, hBP⟩ : ∃ x, x = bodyP 17 b := ⟨_, rfl⟩
      rw [← hSP, ← hDP, ← hEP, ← hBP]
      clear hBP
      have K9 : Hid (Below w.heap.size w u9 ∧ Blk u9 w.heap.size 24 #[.string ⟨#[]⟩, .string ⟨#[]⟩, .int .i64 0, .int .i64 0, .int .i64 0] ∧ Blk u9 gf 24 #[.string (bsL s), .string (bsL d), .int .i64 17, .int .i64 0, .int .i64 0]) := ⟨bel_trans HT.out.1 b9, HT.out.2.1.since b9, HT.out.2.2.since b9⟩
      clear b9 x0 x1 x2 x3 x4 y0 y1 y2 y3 y4 f0 f1 f2 f3 f4
      have x0 : u9.cell? ⟨w.heap.size, 0, none⟩ = some (.string ⟨#[]⟩) := K9.out.2.1.cell 0
      have x1 : u9.cell? ⟨w.heap.size, 1, none⟩ = some (.string ⟨#[]⟩) := K9.out.2.1.cell 1
      have x2 : u9.cell? ⟨w.heap.size, 2, none⟩ = some (.int .i64 0) := K9.out.2.1.cell 2
      have x3 : u9.cell? ⟨w.heap.size, 3, none⟩ = some (.int .i64 0) := K9.out.2.1.cell 3
      have x4 : u9.cell? ⟨w.heap.size, 4, none⟩ = some (.int .i64 0) := K9.out.2.1.cell 4
      have y0 := K9.out.2.1.frozen 0
      have y1 := K9.out.2.1.frozen 1
      have y2 := K9.out.2.1.frozen 2
      have y3 := K9.out.2.1.frozen 3
      have y4 := K9.out.2.1.frozen 4
      have f0 : u9.cell? ⟨gf, 0, none⟩ = some (.string (bsL s)) := K9.out.2.2.cell 0
      have f1 : u9.cell? ⟨gf, 1, none⟩ = some (.string (bsL d)) := K9.out.2.2.cell 1
      have f2 : u9.cell? ⟨gf, 2, none⟩ = some (.int .i64 17) := K9.out.2.2.cell 2
      have f3 : u9.cell? ⟨gf, 3, none⟩ = some (.int .i64 0) := K9.out.2.2.cell 3
      have f4 : u9.cell? ⟨gf, 4, none⟩ = some (.int .i64 0) := K9.out.2.2.cell 4
      have z0 := K9.out.2.2.frozen 0
      have z1 := K9.out.2.2.frozen 1
      have z2 := K9.out.2.2.frozen 2
      have z3 := K9.out.2.2.frozen 3
      have z4 := K9.out.2.2.frozen 4
      by_cases hc : EP = 0
      rotate_left
      · have q0 : ((EP : Int) != 0) = true := by simp; omega
        have E : Hid (ansOf l = ⟨zeroFw, EP⟩) := by
          show ansOf l = _
          rw [E.out, w_err (by decide) (by rw [← hEP]; exact hc), hEP]
        clear hc hSP hDP hEP
        go_wp2_with fail
        refine bodyPost_ret (v := .tuple #[.agg #[.string ⟨#[]⟩, .string ⟨#[]⟩, .int .i64 0, .int .i64 0, .int .i64 0], .int .i64 (EP : Int)]) ?_ rfl (gave_err (E := EP) E.out (put5_below K9.out.1 (Nat.le_refl _) _ _ _ _ _))
        have c5 := put5_blk (t := 24) K9.out.2.1 (.string ⟨#[]⟩) (.string ⟨#[]⟩) (.int .i64 0) (.int .i64 0) (.int .i64 0)
        have c50 := c5.cell 0
        have c51 := c5.cell 1
        have c52 := c5.cell 2
        have c53 := c5.cell 3
        have c54 := c5.cell 4
        change (results _ _).run _ (put5 u9 w.heap.size (.string ⟨#[]⟩) (.string ⟨#[]⟩) (.int .i64 0) (.int .i64 0) (.int .i64 0)) = .ok _ (put5 u9 w.heap.size (.string ⟨#[]⟩) (.string ⟨#[]⟩) (.int .i64 0) (.int .i64 0) (.int .i64 0))
        generalize put5 u9 w.heap.size (.string ⟨#[]⟩) (.string ⟨#[]⟩) (.int .i64 0) (.int .i64 0) (.int .i64 0) = W5 at c50 c51 c52 c53 c54
        simp [results, Try.results11, go_sem, c50, c51, c52, c53, c54]
      subst hc
      have E : Hid (ansOf l = ⟨⟨s, d, 17, SP, DP⟩, 0⟩) := by
        show ansOf l = _
        rw [E.out, w_ok (by decide) hEP.symm, hSP, hDP]
      clear hSP hDP hEP
      have KS : Hid (Blk ((u9.setCell ⟨gf, 3, none⟩ (.int .i64 (SP : Int))).setCell ⟨gf, 4, none⟩ (.int .i64 (DP : Int))) w.heap.size 24 #[.string ⟨#[]⟩, .string ⟨#[]⟩, .int .i64 0, .int .i64 0, .int .i64 0]) := (K9.out.2.1.other (by show w.heap.size ≠ gf; omega) _).other (by show w.heap.size ≠ gf; omega) _
      have BS : Hid (Below w.heap.size w ((u9.setCell ⟨gf, 3, none⟩ (.int .i64 (SP : Int))).setCell ⟨gf, 4, none⟩ (.int .i64 (DP : Int)))) := (K9.out.1.setCell (p := ⟨gf, 3, none⟩) (by show w.heap.size ≤ gf; omega) _).setCell (p := ⟨gf, 4, none⟩) (by show w.heap.size ≤ gf; omega) _
      go_wp2_with fail
      refine bodyPost_ret (v := .tuple #[.agg #[.string (bsL s), .string (bsL d), .int .i64 17, .int .i64 (SP : Int), .int .i64 (DP : Int)], .int .i64 0]) ?_ rfl ⟨s, d, 17, SP, DP, 0, rfl, E.out, put5_below BS.out (Nat.le_refl _) _ _ _ _ _⟩
      have c5 := put5_blk (t := 24) KS.out (.string (bsL s)) (.string (bsL d)) (.int .i64 17) (.int .i64 (SP : Int)) (.int .i64 (DP : Int))
      have c50 := c5.cell 0
      have c51 := c5.cell 1
      have c52 := c5.cell 2
      have c53 := c5.cell 3
      have c54 := c5.cell 4
      change (results _ _).run _ (put5 ((u9.setCell ⟨gf, 3, none⟩ (.int .i64 (SP : Int))).setCell ⟨gf, 4, none⟩ (.int .i64 (DP : Int))) w.heap.size (.string (bsL s)) (.string (bsL d)) (.int .i64 17) (.int .i64 (SP : Int)) (.int .i64 (DP : Int))) = .ok _ (put5 ((u9.setCell ⟨gf, 3, none⟩ (.int .i64 (SP : Int))).setCell ⟨gf, 4, none⟩ (.int .i64 (DP : Int))) w.heap.size (.string (bsL s)) (.string (bsL d)) (.int .i64 17) (.int .i64 (SP : Int)) (.int .i64 (DP : Int)))
      generalize put5 ((u9.setCell ⟨gf, 3, none⟩ (.int .i64 (SP : Int))).setCell ⟨gf, 4, none⟩ (.int .i64 (DP : Int))) w.heap.size (.string (bsL s)) (.string (bsL d)) (.int .i64 17) (.int .i64 (SP : Int)) (.int .i64 (DP : Int)) = W5 at c50 c51 c52 c53 c54
      simp [results, Try.results11, go_sem, c50, c51, c52, c53, c54]
end Go.Proofs.Yticopigpgaomjaa
