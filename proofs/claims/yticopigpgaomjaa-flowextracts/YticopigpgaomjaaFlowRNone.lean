/-
  The document's Extract of layer 9 (flow): bytes that are no frame of a packet.
-/
import Derived.Test.YticopigpgaomjaaFlowTake
import Derived.Test.YticopigpgaomjaaEthRTake
import Derived.Deep.Cut
import Derived.Deep.CutRange
namespace Go.Proofs.Yticopigpgaomjaa
open Go.RowKit Oc Pt Fl Go.Deep
set_option linter.unusedVariables false

set_option maxRecDepth 8000 in
set_option maxHeartbeats 12800000 in
theorem fl_rx_none (w : World) (l : List UInt8) (hl : l.length ≤ 1152921504606846976) (hN : l.length ≤ 2048 → Et.takeE l = 0 → (Et.frOf l).T ≠ 2048 ∧ (Et.frOf l).T ≠ 34525) : Calls Try.prog 11 #[.string (bsL l)] w (Gave w (ansOf l)) := by
  have B0 : Hid (Below w.heap.size w (w.alloc (.cells #[.string ⟨#[]⟩, .string ⟨#[]⟩, .int .i64 0, .int .i64 0, .int .i64 0] 24))) := bel_alloc _ _
  have K0 : Hid (Blk (w.alloc (.cells #[.string ⟨#[]⟩, .string ⟨#[]⟩, .int .i64 0, .int .i64 0, .int .i64 0] 24)) w.heap.size 24 #[.string ⟨#[]⟩, .string ⟨#[]⟩, .int .i64 0, .int .i64 0, .int .i64 0]) := Blk.new _ _ _
  by_cases h1 : 2048 < l.length
  · have E : Hid (ansOf l = ⟨zeroFw, 4⟩) := of_long h1
    go_enter Try.func11, Try.ntmps11
    go_wp2_with fail
    go_returns
    exact gave_err (E := 4) E.out B0.out
  have hm : l.length ≤ 2048 := by omega
  have HN : Hid (_) := hN
  clear hN
  go_enter Try.func11, Try.ntmps11
  go_wp2_with fail
  refine (L5.rtake_any _ l hl).mono ?_
  rintro e u1 ⟨x, rfl, hx, b1⟩
  obtain ⟨v, rfl, ht⟩ := hx
  obtain ⟨A, cap, rfl⟩ := ht.form
  clear ht
  obtain ⟨n, hn⟩ : ∃ n, n = (Et.frOf l).n := ⟨_, rfl⟩
  obtain ⟨dd, hdd⟩ : ∃ x, x = (Et.frOf l).d := ⟨_, rfl⟩
  obtain ⟨ds, hds⟩ : ∃ x, x = (Et.frOf l).s := ⟨_, rfl⟩
  obtain ⟨TT, hT⟩ : ∃ x, x = (Et.frOf l).T := ⟨_, rfl⟩
  obtain ⟨r, hr⟩ : ∃ x, x = Et.restOf l := ⟨_, rfl⟩
  obtain ⟨c, hc⟩ : ∃ x, x = Et.takeE l := ⟨_, rfl⟩
  rw [← hn, ← hdd, ← hds, ← hT, ← hr, ← hc]
  have hrl : r.length ≤ 1152921504606846976 := by rw [hr]; exact Nat.le_trans (rest_len l) hl
  have HL : Hid (TT = (Et.frOf l).T ∧ r = Et.restOf l ∧ c = Et.takeE l) := ⟨hT, hr, hc⟩
  clear hn hdd hds hT hr hc
  have K1 : Hid (Blk u1 w.heap.size 24 #[.string ⟨#[]⟩, .string ⟨#[]⟩, .int .i64 0, .int .i64 0, .int .i64 0]) := K0.out.since b1
  have B1 : Hid (Below w.heap.size w u1) := bel_trans B0.out b1
  have hsz : w.heap.size < u1.heap.size := K1.out.lt
  clear b1
  have x0 : u1.cell? ⟨w.heap.size, 0, none⟩ = some (.string ⟨#[]⟩) := K1.out.cell 0
  have x1 : u1.cell? ⟨w.heap.size, 1, none⟩ = some (.string ⟨#[]⟩) := K1.out.cell 1
  have x2 : u1.cell? ⟨w.heap.size, 2, none⟩ = some (.int .i64 0) := K1.out.cell 2
  have x3 : u1.cell? ⟨w.heap.size, 3, none⟩ = some (.int .i64 0) := K1.out.cell 3
  have x4 : u1.cell? ⟨w.heap.size, 4, none⟩ = some (.int .i64 0) := K1.out.cell 4
  have y0 := K1.out.frozen 0
  have y1 := K1.out.frozen 1
  have y2 := K1.out.frozen 2
  have y3 := K1.out.frozen 3
  have y4 := K1.out.frozen 4
  by_cases h0 : c = 0
  rotate_left
  · have q0 : ((c : Int) != 0) = true := by simp; omega
    have E : Hid (ansOf l = ⟨zeroFw, c⟩) := by
      show ansOf l = _
      rw [of_eth hm (by rw [← HL.out.2.2]; exact h0), ← HL.out.2.2]
    clear h0
    go_wp2_with fail
    refine bodyPost_ret (v := .tuple #[.agg #[.string ⟨#[]⟩, .string ⟨#[]⟩, .int .i64 0, .int .i64 0, .int .i64 0], .int .i64 (c : Int)]) ?_ rfl (gave_err (E := c) E.out (bel_trans (put5_below B1.out (Nat.le_refl _) _ _ _ _ _) (bel_alloc _ _)))
    have c5 := (put5_blk (t := 24) K1.out (.string ⟨#[]⟩) (.string ⟨#[]⟩) (.int .i64 0) (.int .i64 0) (.int .i64 0)).alloc (.cells #[.string (bsL dd), .string (bsL ds), .slice A n cap, .int .i64 TT] 58)
    have c50 := c5.cell 0
    have c51 := c5.cell 1
    have c52 := c5.cell 2
    have c53 := c5.cell 3
    have c54 := c5.cell 4
    change (results _ _).run _ ((put5 u1 w.heap.size (.string ⟨#[]⟩) (.string ⟨#[]⟩) (.int .i64 0) (.int .i64 0) (.int .i64 0)).alloc (.cells #[.string (bsL dd), .string (bsL ds), .slice A n cap, .int .i64 TT] 58)) = .ok _ ((put5 u1 w.heap.size (.string ⟨#[]⟩) (.string ⟨#[]⟩) (.int .i64 0) (.int .i64 0) (.int .i64 0)).alloc (.cells #[.string (bsL dd), .string (bsL ds), .slice A n cap, .int .i64 TT] 58))
    generalize (put5 u1 w.heap.size (.string ⟨#[]⟩) (.string ⟨#[]⟩) (.int .i64 0) (.int .i64 0) (.int .i64 0)).alloc (.cells #[.string (bsL dd), .string (bsL ds), .slice A n cap, .int .i64 TT] 58) = W5 at c50 c51 c52 c53 c54
    simp [results, Try.results11, go_sem, c50, c51, c52, c53, c54]
  subst h0
  have EX : Hid (ansOf l = ansP (pkOf TT r)) := by
    show ansOf l = _
    rw [of_pk hm HL.out.2.2.symm, HL.out.1, HL.out.2.1]
  have h2 : TT ≠ 2048 := by rw [HL.out.1]; exact (HN.out hm HL.out.2.2.symm).1
  have h3 : TT ≠ 34525 := by rw [HL.out.1]; exact (HN.out hm HL.out.2.2.symm).2
  clear HL HN
  have q1 : (TT == 2048) = false := by simpa using h2
  have q2 : (TT == 34525) = false := by simpa using h3
  have E : Hid (ansOf l = ⟨zeroFw, 8⟩) := by
    rw [EX.out, of_none r h2 h3]
    exact p_err (by decide)
  clear h2 h3 EX
  go_wp2_with fail
  refine bodyPost_ret (v := .tuple #[.agg #[.string ⟨#[]⟩, .string ⟨#[]⟩, .int .i64 0, .int .i64 0, .int .i64 0], .int .i64 8]) ?_ rfl (gave_err (E := 8) E.out (bel_trans (bel_trans (put5_below B1.out (Nat.le_refl _) _ _ _ _ _) (bel_alloc _ _)) (bel_alloc _ _)))
  have c5 := ((put5_blk (t := 24) K1.out (.string ⟨#[]⟩) (.string ⟨#[]⟩) (.int .i64 0) (.int .i64 0) (.int .i64 0)).alloc (.cells #[.string (bsL dd), .string (bsL ds), .slice A n cap, .int .i64 TT] 58)).alloc (.cells #[.string ⟨#[]⟩, .string ⟨#[]⟩, .int .i64 0, .int .i64 0, .int .i64 0] 24)
  have c50 := c5.cell 0
  have c51 := c5.cell 1
  have c52 := c5.cell 2
  have c53 := c5.cell 3
  have c54 := c5.cell 4
  change (results _ _).run _ (((put5 u1 w.heap.size (.string ⟨#[]⟩) (.string ⟨#[]⟩) (.int .i64 0) (.int .i64 0) (.int .i64 0)).alloc (.cells #[.string (bsL dd), .string (bsL ds), .slice A n cap, .int .i64 TT] 58)).alloc (.cells #[.string ⟨#[]⟩, .string ⟨#[]⟩, .int .i64 0, .int .i64 0, .int .i64 0] 24)) = .ok _ (((put5 u1 w.heap.size (.string ⟨#[]⟩) (.string ⟨#[]⟩) (.int .i64 0) (.int .i64 0) (.int .i64 0)).alloc (.cells #[.string (bsL dd), .string (bsL ds), .slice A n cap, .int .i64 TT] 58)).alloc (.cells #[.string ⟨#[]⟩, .string ⟨#[]⟩, .int .i64 0, .int .i64 0, .int .i64 0] 24))
  generalize ((put5 u1 w.heap.size (.string ⟨#[]⟩) (.string ⟨#[]⟩) (.int .i64 0) (.int .i64 0) (.int .i64 0)).alloc (.cells #[.string (bsL dd), .string (bsL ds), .slice A n cap, .int .i64 TT] 58)).alloc (.cells #[.string ⟨#[]⟩, .string ⟨#[]⟩, .int .i64 0, .int .i64 0, .int .i64 0] 24) = W5 at c50 c51 c52 c53 c54
  simp [results, Try.results11, go_sem, c50, c51, c52, c53, c54]
end Go.Proofs.Yticopigpgaomjaa
