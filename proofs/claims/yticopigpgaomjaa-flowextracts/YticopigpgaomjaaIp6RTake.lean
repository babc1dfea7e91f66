
/-
  The reference's Take: what it answers of any bytes.
-/
import Derived.Test.YticopigpgaomjaaIp6Take
import Derived.Deep.Cut
import Derived.Deep.CutRange
namespace Go.Proofs.Yticopigpgaomjaa.L7
open Go.RowKit Oc Ip6 Go.Deep
set_option linter.unusedVariables false

theorem owns_of {w w' : World} {base : Nat} {e : TypeId} {size : Nat} {v : Value} {n : Nat} {xs : List Value} (h : w.ownsRow base e size v n xs) (hb : ∀ q, v.ownBlock = some q → w'.heap[q]? = w.heap[q]?) : w'.ownsRow base e size v n xs := by
  obtain ⟨h1, h2⟩ := h
  refine ⟨h1, ?_⟩
  rcases h2 with h2 | ⟨g, cap, cur, hv, hg, hh, r⟩
  · exact Or.inl h2
  · refine Or.inr ⟨g, cap, cur, hv, hg, ?_, r⟩
    rw [hb g (by rw [hv]; rfl)]
    exact hh
theorem went_err {K0 K : Int} {s0 s : List UInt8} {C : List Ex} (h : Went K0 s0 C K s) (hK : isX K = true) (hn : C.length = 8 ∨ (K = 0 ∧ 0 < C.length) ∨ s.length < 8 ∨ s.length < endX K s) : takeC 8 K0 s0 = none := by
  by_cases h8 : C.length = 8
  · exact went_full h hK h8
  · have := h.1
    exact went_not h hK (by omega) (by rcases hn with hn | hn; exact absurd hn h8; exact hn)
/-- What the loop of the reference's Take keeps: the result, the header, its chain. -/
structure RIn (w wr : World) (Cl Lb a7 : Nat) (s8 s24 : List UInt8) (K : Int) (v : Value) (k : Nat) (P : List Ex) : Prop where
  since : Below w.heap.size w wr
  size : w.heap.size + 2 ≤ wr.heap.size
  res : Blk wr w.heap.size 66 #[.int .i64 0, .int .i64 0, .int .i64 0, .int .i64 0, .string ⟨#[]⟩, .string ⟨#[]⟩, .slice none 0 0]
  fr : Blk wr (w.heap.size + 1) 66 #[.int .i64 (Cl : Int), .int .i64 (Lb : Int), .int .i64 (a7 : Int), .int .i64 K, .string (bsL s8), .string (bsL s24), v]
  own : wr.ownsRow (w.heap.size + 2) 94 2 v k (exCells P)
theorem RIn.drewN {w wr : World} {Cl Lb a7 : Nat} {s8 s24 : List UInt8} {K : Int} {v : Value} {k : Nat} {P : List Ex} (h : RIn w wr Cl Lb a7 s8 s24 K v k P) (nq : Nat) : RIn w (wr.drewN nq) Cl Lb a7 s8 s24 K v k P := ⟨below_drewN h.since nq, h.size, h.res, h.fr, owns_of h.own (fun q _ => rfl)⟩
theorem RIn.new {w wr : World} {Cl Lb a7 : Nat} {s8 s24 : List UInt8} {K : Int} {v : Value} {k : Nat} {P : List Ex} (h : RIn w wr Cl Lb a7 s8 s24 K v k P) (cs : Array Value) (t : TypeId) :
    RIn w (wr.alloc (.cells cs t)) Cl Lb a7 s8 s24 K v k P ∧ Blk (wr.alloc (.cells cs t)) wr.heap.size t cs ∧ (w.heap.size + 2 ≤ wr.heap.size ∧ ∀ q, v.ownBlock = some q → q ≠ wr.heap.size) := by
  have sz := h.size
  refine ⟨⟨h.since.alloc h.since.size _, by simp; omega, h.res.alloc _, h.fr.alloc _, owns_of h.own fun q e => Below.heap_alloc _ _ _ (h.own.lt q e).2⟩, Blk.new _ _ _, sz, fun q e => ?_⟩
  have := (h.own.lt q e).2
  omega
theorem RIn.setx {w wr : World} {Cl Lb a7 gx : Nat} {s8 s24 : List UInt8} {K : Int} {v : Value} {k : Nat} {P : List Ex} (h : RIn w wr Cl Lb a7 s8 s24 K v k P) (hg : w.heap.size + 2 ≤ gx ∧ ∀ q, v.ownBlock = some q → q ≠ gx) (i : Nat) (y : Value) : RIn w (wr.setCell ⟨gx, i, none⟩ y) Cl Lb a7 s8 s24 K v k P := by
  have g2 := hg.1
  refine ⟨h.since.setCell (by show w.heap.size ≤ gx; omega) y, ?_, h.res.other (by show w.heap.size ≠ gx; omega) _, h.fr.other (by show w.heap.size + 1 ≠ gx; omega) _, owns_of h.own fun q e => Below.heap_setCell _ _ _ _ (hg.2 q e)⟩
  have := h.size
  simp [World.setCell]; omega
theorem RIn.setk {w wr : World} {Cl Lb a7 : Nat} {s8 s24 : List UInt8} {K : Int} {v : Value} {k : Nat} {P : List Ex} (h : RIn w wr Cl Lb a7 s8 s24 K v k P) (N : Int) : RIn w (wr.setCell ⟨w.heap.size + 1, 3, none⟩ (.int .i64 N)) Cl Lb a7 s8 s24 N v k P := by
  refine ⟨h.since.setCell (by show w.heap.size ≤ w.heap.size + 1; omega) _, ?_, h.res.other (by show w.heap.size ≠ w.heap.size + 1; omega) _, h.fr.set 3 _, ownsRow_setCell_below h.own (by show w.heap.size + 1 < w.heap.size + 2; omega) _⟩
  have := h.size
  simp [World.setCell]; omega
theorem RIn.step {w wq w1 : World} {Cl Lb a7 : Nat} {s8 s24 D : List UInt8} {K X : Int} {v v' : Value} {k : Nat} {P : List Ex} {y : Obj} (h : RIn w wq Cl Lb a7 s8 s24 X v k P)
    (hown : w1.ownsRow (w.heap.size + 2) 94 2 v' (k + 1) (exCells P ++ [.int .i64 K, .string (bsL D)])) (hg : (wq.alloc y).grownBy w1 v.ownBlock) :
    Blk w1 (w.heap.size + 1) 66 #[.int .i64 (Cl : Int), .int .i64 (Lb : Int), .int .i64 (a7 : Int), .int .i64 X, .string (bsL s8), .string (bsL s24), v] ∧ RIn w (w1.setCell ⟨w.heap.size + 1, 6, none⟩ v') Cl Lb a7 s8 s24 X v' (k + 1) (P ++ [⟨K, D⟩]) := by
  have far : ∀ q, v.ownBlock = some q → w.heap.size + 2 ≤ q := fun q e => (h.own.lt q e).1
  have sz := h.size
  have b1 : Blk w1 w.heap.size 66 #[.int .i64 0, .int .i64 0, .int .i64 0, .int .i64 0, .string ⟨#[]⟩, .string ⟨#[]⟩, .slice none 0 0] := (h.res.alloc y).grown hg fun e => by have := far _ e.symm; omega
  have b2 : Blk w1 (w.heap.size + 1) 66 #[.int .i64 (Cl : Int), .int .i64 (Lb : Int), .int .i64 (a7 : Int), .int .i64 X, .string (bsL s8), .string (bsL s24), v] := (h.fr.alloc y).grown hg fun e => by have := far _ e.symm; omega
  have s1 : Below w.heap.size w w1 := (h.since.alloc h.since.size y).grown hg (by have := h.since.size; simp; omega) fun q e => by have := far q e; omega
  have z1 := hg.size
  simp only [World.size_alloc] at z1
  refine ⟨b2, s1.setCell (by show w.heap.size ≤ w.heap.size + 1; omega) _, ?_, b1.other (by show w.heap.size ≠ w.heap.size + 1; omega) _, b2.set 6 v', ?_⟩
  · have : (w1.setCell ⟨w.heap.size + 1, 6, none⟩ v').heap.size = w1.heap.size := by simp [World.setCell]
    omega
  · rw [exCells_app]
    exact ownsRow_setCell_below hown (by show w.heap.size + 1 < w.heap.size + 2; omega) _
theorem went_next {K0 K : Int} {s0 r D r' : List UInt8} {k N : Nat} {P : List Ex} (h : Went K0 s0 P K r) (hl : P.length = k) (hK : isX K = true) (hk : k < 8) (h0 : K = 0 → k = 0)
    (hx : 8 ≤ r.length ∧ endX K r ≤ r.length ∧ atL r 0 = N ∧ dataX K r = D ∧ r.drop (endX K r) = r') : Went K0 s0 (P ++ [⟨K, D⟩]) (N : Int) r' := by
  obtain ⟨x1, x2, x3, x4, x5⟩ := hx
  have st := went_step h hK (by omega) (fun e => by have := h0 e; omega) x1 x2
  rw [x3, x4, x5] at st
  exact st
set_option maxRecDepth 8000 in
set_option maxHeartbeats 6400000 in
theorem prtake_any (w : World) (l : List UInt8) (hl : l.length ≤ 1152921504606846976) : Calls Try.prog 28 #[.string (bsL l)] w (Took w l) := by
  obtain ⟨iR, hi, hz, hs, hb⟩ := infoR
  have HI : Hid (Try.prog.info? 94 = some iR ∧ iR.zero = some (.agg #[.int .i64 0, .string ⟨#[]⟩]) ∧ iR.size = 2 ∧ iR.bytes = 24) := ⟨hi, hz, hs, hb⟩
  clear hi hz hs hb
  have B0 : Hid (Below w.heap.size w (w.alloc (.cells #[.int .i64 0, .int .i64 0, .int .i64 0, .int .i64 0, .string ⟨#[]⟩, .string ⟨#[]⟩, .slice none 0 0] 66))) := bel_alloc _ _
  by_cases h1 : (l.length : Int) < 40
  · have E : Hid (takeE l = 2) := Ip6.take_short (by omega)
    go_enter Try.func28, Try.ntmps28
    go_wp2_with fail
    go_returns
    exact took_err (E := 2) E.out (by decide) B0.out
  have l0 : (0 : Int) < l.length := by omega
  have n0 : 0 < l.length := by omega
  have a0 := atL_lt l 0
  by_cases h2 : atL l 0 / 16 = 6
  rotate_left
  · have q2 : ((atL l 0 : Int) / 16 != 6) = true := by simp; omega
    have E : Hid (takeE l = 10) := take_version (by omega) h2
    clear h2
    go_enter Try.func28, Try.ntmps28
    go_wp2_with fail
    go_returns
    exact took_err (E := 10) E.out (by decide) B0.out
  have q2 : ((atL l 0 : Int) / 16 != 6) = false := by simp; omega
  have H2 : Hid (atL l 0 / 16 = 6) := h2
  clear h2
  have D4 : (bsL l).extract 4 6 = bsL ((l.drop 4).take 2) := bsL_extract l 4 6
  have N4 : Hid (numL ((l.drop 4).take 2) = lenL l) := num_two l 4 (by omega)
  have M4 : Hid (((l.drop 4).take 2).length ≤ 7) := by show ((l.drop 4).take 2).length ≤ 7; simp; omega
  obtain ⟨z4, h4⟩ : ∃ z, z = (l.drop 4).take 2 := ⟨_, rfl⟩
  rw [← h4] at D4 N4 M4
  have L1 : lenL l < 65536 := pairL_lt l 4
  obtain ⟨Ln, hL⟩ : ∃ Ln, Ln = lenL l := ⟨_, rfl⟩
  rw [← hL] at N4 L1
  have HL : Hid (lenL l = Ln) := hL.symm
  clear hL h4
  have l4 : (4 : Int) ≤ l.length := by omega
  have l6 : (6 : Int) ≤ l.length := by omega
  obtain ⟨M, hM⟩ : ∃ M, M = 40 + Ln := ⟨_, rfl⟩
  have zM : (40 : Int) + (Ln : Int) = (M : Int) := by omega
  have M1 : (40 : Int) ≤ (M : Int) := by omega
  have HM : Hid (M = 40 + Ln) := hM
  by_cases h3 : (l.length : Int) < (M : Int)
  · clear hM
    have E : Hid (takeE l = 13) := take_length (by omega) H2.out (by rw [HL.out]; have := HM.out; omega)
    go_enter Try.func28, Try.ntmps28
    go_wp2_with fail
    refine (number_any z4 _ M4.out).mono ?_
    rintro e u1 ⟨rfl, rfl⟩
    rw [N4.out]
    go_wp2_with fail
    go_returns
    exact took_err (E := 13) E.out (by decide) B0.out
  obtain ⟨w4, h4⟩ : ∃ z, z = l.take 4 := ⟨_, rfl⟩
  have D0 : (bsL l).extract 0 4 = bsL w4 := by rw [h4]; exact bsL_take l 4
  have N0 : Hid (numL w4 = wordL l) := by show numL w4 = wordL l; rw [h4]; rfl
  have M0 : Hid (w4.length ≤ 7) := by show w4.length ≤ 7; rw [h4]; simp; omega
  have T4 : Hid (l.take 4 = w4) := h4.symm
  have W1 : wordL l < 4294967296 := by
    have := num_take_lt l 4
    unfold wordL; omega
  obtain ⟨W, hW⟩ : ∃ W, W = wordL l := ⟨_, rfl⟩
  rw [← hW] at N0 W1
  have HW : Hid (wordL l = W) := hW.symm
  clear hW h4
  obtain ⟨bh, hbh⟩ : ∃ x, x = (l.drop 40).take Ln := ⟨_, rfl⟩
  have bl : bh.length = Ln := by rw [hbh]; simp; omega
  have Db : (bsL l).extract 40 M = bsL bh := by
    rw [hbh, hM]
    have e := bsL_extract l 40 (40 + Ln)
    rw [Nat.add_sub_cancel_left] at e
    exact e
  have HB : Hid (behL l = bh) := by show behL l = bh; unfold behL; rw [HL.out, hbh]
  clear hbh
  obtain ⟨a6, h6⟩ : ∃ x, x = atL l 6 := ⟨_, rfl⟩
  obtain ⟨a7, h7⟩ : ∃ x, x = atL l 7 := ⟨_, rfl⟩
  have a6l : atL l 6 < 256 := atL_lt l 6
  have a7l : atL l 7 < 256 := atL_lt l 7
  have TK : Hid (tkOf l = takeC 8 (a6 : Int) bh) := by
    show tkOf l = _
    unfold tkOf
    rw [HB.out, h6]
  obtain ⟨s8, e8⟩ : ∃ x, x = (l.drop 8).take 16 := ⟨_, rfl⟩
  obtain ⟨s24, e24⟩ : ∃ x, x = (l.drop 24).take 16 := ⟨_, rfl⟩
  have D8 : (bsL l).extract 8 24 = bsL s8 := by rw [e8]; exact bsL_extract l 8 24
  have D24 : (bsL l).extract 24 40 = bsL s24 := by rw [e24]; exact bsL_extract l 24 40
  obtain ⟨Sh, hSh⟩ : ∃ x, x = W / 1048576 := ⟨_, rfl⟩
  obtain ⟨Cl, hCl⟩ : ∃ x, x = Sh % 256 := ⟨_, rfl⟩
  obtain ⟨Lb, hLb⟩ : ∃ x, x = W % 1048576 := ⟨_, rfl⟩
  have zSh : (W : Int) / 1048576 = (Sh : Int) := by omega
  have zCl : (Sh : Int) % 256 = (Cl : Int) := by omega
  have zLb : (W : Int) % 1048576 = (Lb : Int) := by omega
  have OK : Hid (∀ t : Tk, okHd l t = ⟨(Cl : Int), (Lb : Int), (a7 : Int), t.pro, s8, s24, t.ch⟩) := fun t => by
    unfold okHd
    rw [HW.out, e8, e24, h7, hLb, hCl, hSh]
  have H3 : Hid (40 + lenL l ≤ l.length) := by show 40 + lenL l ≤ l.length; rw [HL.out]; omega
  have A67 : Hid (a6 = atL l 6 ∧ a7 = atL l 7) := ⟨h6, h7⟩
  have w6 : (atL l 6 : Int) = (a6 : Int) := by omega
  have w7 : (atL l 7 : Int) = (a7 : Int) := by omega
  clear e8 e24 hSh hCl hLb h6 h7
  have l7 : (7 : Int) < l.length := by omega
  have l6' : (6 : Int) < l.length := by omega
  have n6 : 6 < l.length := by omega
  have n7 : 7 < l.length := by omega
  have l8 : (8 : Int) ≤ l.length := by omega
  have l24 : (24 : Int) ≤ l.length := by omega
  have l40 : (40 : Int) ≤ l.length := by omega
  have lLn : (M : Int) ≤ l.length := by omega
  clear hM
  go_enter Try.func28, Try.ntmps28
  go_wp2_with fail
  refine (number_any z4 _ M4.out).mono ?_
  rintro e u1 ⟨rfl, rfl⟩
  rw [N4.out]
  go_wp2_with fail
  try rw [T4.out]
  refine (number_any w4 _ M0.out).mono ?_
  rintro e u2 ⟨rfl, rfl⟩
  rw [N0.out]
  go_wp2_with fail
  go_region
  have START : Hid (RIn w (((w.alloc (.cells #[.int .i64 0, .int .i64 0, .int .i64 0, .int .i64 0, .string ⟨#[]⟩, .string ⟨#[]⟩, .slice none 0 0] 66)).alloc (.cells #[.int .i64 (Cl : Int), .int .i64 (Lb : Int), .int .i64 (a7 : Int), .int .i64 (a6 : Int), .string (bsL s8), .string (bsL s24), .slice none 0 0] 66)).drew) Cl Lb a7 s8 s24 (a6 : Int) (.slice none 0 0) 0 []) := by
    refine ⟨(((Below.refl _ _).alloc (Nat.le_refl _) _).alloc (by simp) _).drew, by simp [World.drew], ?_, ?_, World.ownsRow_nil _ _ _ _⟩
    · exact (Blk.new w 66 #[.int .i64 0, .int .i64 0, .int .i64 0, .int .i64 0, .string ⟨#[]⟩, .string ⟨#[]⟩, .slice none 0 0]).alloc _
    · have e := Blk.new (w.alloc (.cells #[.int .i64 0, .int .i64 0, .int .i64 0, .int .i64 0, .string ⟨#[]⟩, .string ⟨#[]⟩, .slice none 0 0] 66)) 66 #[.int .i64 (Cl : Int), .int .i64 (Lb : Int), .int .i64 (a7 : Int), .int .i64 (a6 : Int), .string (bsL s8), .string (bsL s24), .slice none 0 0]
      simp only [World.size_alloc] at e
      exact e
  go_wp2_with fail
  generalize ((Sh : Int) % 256) = c1
  generalize ((W : Int) % 1048576) = c2
  generalize ((atL l 0 : Int) / 16) = c3
  generalize (atL l 0 : Int) = c4
  go_loopg [8] 8 (fun g t wr => ∃ (k : Nat) (K : Int) (r : List UInt8) (ao : Option Addr) (cv : Nat) (P : List Ex), (g = 8 - k ∧ r.length ≤ 65535 ∧ P.length = k ∧ Went (a6 : Int) bh P K r ∧ RIn w wr Cl Lb a7 s8 s24 K (.slice ao k cv) k P) ∧ t = .string (bsL r))
  case atStart => exact ⟨0, (a6 : Int), bh, none, 0, [], ⟨rfl, by omega, rfl, went_start _ _, START.out⟩, rfl⟩
  case round =>
    clear START D4 D0 Db D8 D24 zSh zCl zLb w6 w7 l0 n0 a0 l4 l6 l7 l6' n6 n7 l8 l24 lLn q2 a6l a7l zM M1
    obtain ⟨k, K, r, ao, cv, P, ⟨hg, hr, hl8, hWn, hR⟩, rfl⟩ := hrel
    have HK : Hid (gk = 8 - k ∧ P.length = k ∧ Went (a6 : Int) bh P K r ∧ RIn w wr Cl Lb a7 s8 s24 K (.slice ao k cv) k P) := ⟨hg, hl8, hWn, hR⟩
    have hk8 : k ≤ 8 := by have := hWn.1; omega
    have hsz := hR.size
    have hs1 : w.heap.size + 1 < wr.heap.size := by omega
    have hs0 : w.heap.size < wr.heap.size := by omega
    have x0 : wr.cell? ⟨w.heap.size, 0, none⟩ = some (.int .i64 0) := hR.res.cell 0
    have x1 : wr.cell? ⟨w.heap.size, 1, none⟩ = some (.int .i64 0) := hR.res.cell 1
    have x2 : wr.cell? ⟨w.heap.size, 2, none⟩ = some (.int .i64 0) := hR.res.cell 2
    have x3 : wr.cell? ⟨w.heap.size, 3, none⟩ = some (.int .i64 0) := hR.res.cell 3
    have x4 : wr.cell? ⟨w.heap.size, 4, none⟩ = some (.string ⟨#[]⟩) := hR.res.cell 4
    have x5 : wr.cell? ⟨w.heap.size, 5, none⟩ = some (.string ⟨#[]⟩) := hR.res.cell 5
    have x6 : wr.cell? ⟨w.heap.size, 6, none⟩ = some (.slice none 0 0) := hR.res.cell 6
    have y0 := hR.res.frozen 0
    have y1 := hR.res.frozen 1
    have y2 := hR.res.frozen 2
    have y3 := hR.res.frozen 3
    have y4 := hR.res.frozen 4
    have y5 := hR.res.frozen 5
    have y6 := hR.res.frozen 6
    have f0 : wr.cell? ⟨w.heap.size + 1, 0, none⟩ = some (.int .i64 (Cl : Int)) := hR.fr.cell 0
    have f1 : wr.cell? ⟨w.heap.size + 1, 1, none⟩ = some (.int .i64 (Lb : Int)) := hR.fr.cell 1
    have f2 : wr.cell? ⟨w.heap.size + 1, 2, none⟩ = some (.int .i64 (a7 : Int)) := hR.fr.cell 2
    have f3 : wr.cell? ⟨w.heap.size + 1, 3, none⟩ = some (.int .i64 K) := hR.fr.cell 3
    have f4 : wr.cell? ⟨w.heap.size + 1, 4, none⟩ = some (.string (bsL s8)) := hR.fr.cell 4
    have f5 : wr.cell? ⟨w.heap.size + 1, 5, none⟩ = some (.string (bsL s24)) := hR.fr.cell 5
    have f6 : wr.cell? ⟨w.heap.size + 1, 6, none⟩ = some (.slice ao k cv) := hR.fr.cell 6
    have z0 := hR.fr.frozen 0
    have z1 := hR.fr.frozen 1
    have z2 := hR.fr.frozen 2
    have z3 := hR.fr.frozen 3
    have z4 := hR.fr.frozen 4
    have z5 := hR.fr.frozen 5
    have z6 := hR.fr.frozen 6
    have NO : Hid (takeC 8 (a6 : Int) bh = none → takeE l = 15) := fun h => take_chain (by omega) H2.out H3.out (TK.out.trans h)
    clear hg hl8 hWn hR
    by_cases hX : isX K = true
    rotate_left
    · have hX' : isX K = false := by simpa using hX
      clear hX
      have TD : Hid (takeE l = 0 ∧ hdOf l = ⟨(Cl : Int), (Lb : Int), (a7 : Int), K, s8, s24, P⟩ ∧ bodyOf l = r) := by
        obtain ⟨d1, d2, d3⟩ := take_done (by omega) H2.out H3.out (TK.out.trans (went_done HK.out.2.2.1 hX'))
        exact ⟨d1, by rw [d2, OK.out], d3⟩
      go_wp2_with fail
      refine (rkind_any K _).mono ?_
      rintro e u1 ⟨rfl, rfl⟩
      go_wp2_with fail
      refine bodyPost_ret (v := .tuple #[.agg #[.int .i64 (Cl : Int), .int .i64 (Lb : Int), .int .i64 (a7 : Int), .int .i64 K, .string (bsL s8), .string (bsL s24), .slice ao k cv], .string (bsL r), .int .i64 0]) ?_ rfl ⟨_, _, _, _, _, _, P, ao, k, cv, r, 0, rfl, ⟨TD.out.2.1, TD.out.2.2, TD.out.1, HK.out.2.1⟩, owns_ch (put7_owns HK.out.2.2.2.own (g := w.heap.size) (by omega) (.int .i64 (Cl : Int)) (.int .i64 (Lb : Int)) (.int .i64 (a7 : Int)) (.int .i64 K) (.string (bsL s8)) (.string (bsL s24)) (.slice ao k cv)) HK.out.2.1, put7_below HK.out.2.2.2.since (Nat.le_refl _) (.int .i64 (Cl : Int)) (.int .i64 (Lb : Int)) (.int .i64 (a7 : Int)) (.int .i64 K) (.string (bsL s8)) (.string (bsL s24)) (.slice ao k cv)⟩
      have c7 := put7_blk (t := 66) HK.out.2.2.2.res (.int .i64 (Cl : Int)) (.int .i64 (Lb : Int)) (.int .i64 (a7 : Int)) (.int .i64 K) (.string (bsL s8)) (.string (bsL s24)) (.slice ao k cv)
      have c70 := c7.cell 0
      have c71 := c7.cell 1
      have c72 := c7.cell 2
      have c73 := c7.cell 3
      have c74 := c7.cell 4
      have c75 := c7.cell 5
      have c76 := c7.cell 6
      change (results _ _).run _ (put7 u1 w.heap.size (.int .i64 (Cl : Int)) (.int .i64 (Lb : Int)) (.int .i64 (a7 : Int)) (.int .i64 K) (.string (bsL s8)) (.string (bsL s24)) (.slice ao k cv)) = .ok _ (put7 u1 w.heap.size (.int .i64 (Cl : Int)) (.int .i64 (Lb : Int)) (.int .i64 (a7 : Int)) (.int .i64 K) (.string (bsL s8)) (.string (bsL s24)) (.slice ao k cv))
      generalize put7 u1 w.heap.size (.int .i64 (Cl : Int)) (.int .i64 (Lb : Int)) (.int .i64 (a7 : Int)) (.int .i64 K) (.string (bsL s8)) (.string (bsL s24)) (.slice ao k cv) = W7 at c70 c71 c72 c73 c74 c75 c76
      simp [results, Try.results28, go_sem, c70, c71, c72, c73, c74, c75, c76]
    have HX : Hid (isX K = true) := hX
    by_cases t8 : (r.length : Int) < 8
    · have E : Hid (takeE l = 15) := NO.out (went_err HK.out.2.2.1 hX (Or.inr (Or.inr (Or.inl (by omega)))))
      go_wp2_with fail
      refine (rkind_any K _).mono ?_
      rintro e u1 ⟨rfl, rfl⟩
      go_wp2_with fail
      refine bodyPost_ret (v := .tuple #[.agg #[.int .i64 0, .int .i64 0, .int .i64 0, .int .i64 0, .string ⟨#[]⟩, .string ⟨#[]⟩, .slice none 0 0], .string ⟨#[]⟩, .int .i64 15]) ?_ rfl (took_err (E := 15) E.out (by decide) (put7_below HK.out.2.2.2.since (Nat.le_refl _) (.int .i64 0) (.int .i64 0) (.int .i64 0) (.int .i64 0) (.string ⟨#[]⟩) (.string ⟨#[]⟩) (.slice none 0 0)))
      have c7 := put7_blk (t := 66) HK.out.2.2.2.res (.int .i64 0) (.int .i64 0) (.int .i64 0) (.int .i64 0) (.string ⟨#[]⟩) (.string ⟨#[]⟩) (.slice none 0 0)
      have c70 := c7.cell 0
      have c71 := c7.cell 1
      have c72 := c7.cell 2
      have c73 := c7.cell 3
      have c74 := c7.cell 4
      have c75 := c7.cell 5
      have c76 := c7.cell 6
      change (results _ _).run _ (put7 u1 w.heap.size (.int .i64 0) (.int .i64 0) (.int .i64 0) (.int .i64 0) (.string ⟨#[]⟩) (.string ⟨#[]⟩) (.slice none 0 0)) = .ok _ (put7 u1 w.heap.size (.int .i64 0) (.int .i64 0) (.int .i64 0) (.int .i64 0) (.string ⟨#[]⟩) (.string ⟨#[]⟩) (.slice none 0 0))
      generalize put7 u1 w.heap.size (.int .i64 0) (.int .i64 0) (.int .i64 0) (.int .i64 0) (.string ⟨#[]⟩) (.string ⟨#[]⟩) (.slice none 0 0) = W7 at c70 c71 c72 c73 c74 c75 c76
      simp [results, Try.results28, go_sem, c70, c71, c72, c73, c74, c75, c76]
    by_cases t7 : (7 : Int) < k
    · have E : Hid (takeE l = 15) := NO.out (went_err HK.out.2.2.1 hX (Or.inl (by have := HK.out.2.1; omega)))
      go_wp2_with fail
      refine (rkind_any K _).mono ?_
      rintro e u1 ⟨rfl, rfl⟩
      go_wp2_with fail
      refine bodyPost_ret (v := .tuple #[.agg #[.int .i64 0, .int .i64 0, .int .i64 0, .int .i64 0, .string ⟨#[]⟩, .string ⟨#[]⟩, .slice none 0 0], .string ⟨#[]⟩, .int .i64 15]) ?_ rfl (took_err (E := 15) E.out (by decide) (put7_below HK.out.2.2.2.since (Nat.le_refl _) (.int .i64 0) (.int .i64 0) (.int .i64 0) (.int .i64 0) (.string ⟨#[]⟩) (.string ⟨#[]⟩) (.slice none 0 0)))
      have c7 := put7_blk (t := 66) HK.out.2.2.2.res (.int .i64 0) (.int .i64 0) (.int .i64 0) (.int .i64 0) (.string ⟨#[]⟩) (.string ⟨#[]⟩) (.slice none 0 0)
      have c70 := c7.cell 0
      have c71 := c7.cell 1
      have c72 := c7.cell 2
      have c73 := c7.cell 3
      have c74 := c7.cell 4
      have c75 := c7.cell 5
      have c76 := c7.cell 6
      change (results _ _).run _ (put7 u1 w.heap.size (.int .i64 0) (.int .i64 0) (.int .i64 0) (.int .i64 0) (.string ⟨#[]⟩) (.string ⟨#[]⟩) (.slice none 0 0)) = .ok _ (put7 u1 w.heap.size (.int .i64 0) (.int .i64 0) (.int .i64 0) (.int .i64 0) (.string ⟨#[]⟩) (.string ⟨#[]⟩) (.slice none 0 0))
      generalize put7 u1 w.heap.size (.int .i64 0) (.int .i64 0) (.int .i64 0) (.int .i64 0) (.string ⟨#[]⟩) (.string ⟨#[]⟩) (.slice none 0 0) = W7 at c70 c71 c72 c73 c74 c75 c76
      simp [results, Try.results28, go_sem, c70, c71, c72, c73, c74, c75, c76]
    have d0 : (0 : Int) < r.length := by omega
    have d1 : (1 : Int) < r.length := by omega
    have m0 : 0 < r.length := by omega
    have m1 : 1 < r.length := by omega
    have d1' : (1 : Int) ≤ r.length := by omega
    have d2' : (2 : Int) ≤ r.length := by omega
    have d8 : (8 : Int) ≤ r.length := by omega
    have b0 := atL_lt r 0
    have b1 := atL_lt r 1
    obtain ⟨N, hN⟩ : ∃ N, N = atL r 0 := ⟨_, rfl⟩
    have zN : (atL r 0 : Int) = (N : Int) := by omega
    have HN : Hid (atL r 0 = N) := hN.symm
    clear hN
    by_cases h0 : K = 0
    · subst h0
      by_cases hk0 : (0 : Int) < k
      · have E : Hid (takeE l = 15) := NO.out (went_err HK.out.2.2.1 hX (Or.inr (Or.inl ⟨rfl, by have := HK.out.2.1; omega⟩)))
        go_wp2_with fail
        refine (rkind_any 0 _).mono ?_
        rintro e u1 ⟨rfl, rfl⟩
        go_wp2_with fail
        refine bodyPost_ret (v := .tuple #[.agg #[.int .i64 0, .int .i64 0, .int .i64 0, .int .i64 0, .string ⟨#[]⟩, .string ⟨#[]⟩, .slice none 0 0], .string ⟨#[]⟩, .int .i64 15]) ?_ rfl (took_err (E := 15) E.out (by decide) (put7_below HK.out.2.2.2.since (Nat.le_refl _) (.int .i64 0) (.int .i64 0) (.int .i64 0) (.int .i64 0) (.string ⟨#[]⟩) (.string ⟨#[]⟩) (.slice none 0 0)))
        have c7 := put7_blk (t := 66) HK.out.2.2.2.res (.int .i64 0) (.int .i64 0) (.int .i64 0) (.int .i64 0) (.string ⟨#[]⟩) (.string ⟨#[]⟩) (.slice none 0 0)
        have c70 := c7.cell 0
        have c71 := c7.cell 1
        have c72 := c7.cell 2
        have c73 := c7.cell 3
        have c74 := c7.cell 4
        have c75 := c7.cell 5
        have c76 := c7.cell 6
        change (results _ _).run _ (put7 u1 w.heap.size (.int .i64 0) (.int .i64 0) (.int .i64 0) (.int .i64 0) (.string ⟨#[]⟩) (.string ⟨#[]⟩) (.slice none 0 0)) = .ok _ (put7 u1 w.heap.size (.int .i64 0) (.int .i64 0) (.int .i64 0) (.int .i64 0) (.string ⟨#[]⟩) (.string ⟨#[]⟩) (.slice none 0 0))
        generalize put7 u1 w.heap.size (.int .i64 0) (.int .i64 0) (.int .i64 0) (.int .i64 0) (.string ⟨#[]⟩) (.string ⟨#[]⟩) (.slice none 0 0) = W7 at c70 c71 c72 c73 c74 c75 c76
        simp [results, Try.results28, go_sem, c70, c71, c72, c73, c74, c75, c76]
      have HZ : Hid ((0 : Int) = 0 → k = 0) := fun _ => by omega
      have H4 : Hid ((0 : Int) ≠ 44) := by show (0 : Int) ≠ 44; decide
      obtain ⟨V1, hV⟩ : ∃ V, V = atL r 1 + 1 := ⟨_, rfl⟩
      obtain ⟨En, hE⟩ : ∃ En, En = 8 * V1 := ⟨_, rfl⟩
      have zV : (atL r 1 : Int) + 1 = (V1 : Int) := by omega
      have zE : (8 : Int) * (V1 : Int) = (En : Int) := by omega
      have V9 : V1 ≤ 256 := by omega
      have HE : Hid (endX 0 r = En) := by show endX 0 r = En; unfold endX; rw [if_neg H4.out, hE, hV]
      have E8 : 8 ≤ En := by omega
      have E9 : En ≤ 2048 := by omega
      clear hE hV
      by_cases tE : (r.length : Int) < En
      · have E : Hid (takeE l = 15) := NO.out (went_err HK.out.2.2.1 HX.out (Or.inr (Or.inr (Or.inr (by rw [HE.out]; omega)))))
        clear x0 x1 x2 x3 x4 x5 x6 y0 y1 y2 y3 y4 y5 y6 f0 f1 f2 f4 f5 z0 z1 z2 z4 z5
        go_wp2_with fail
        refine (rkind_any 0 _).mono ?_
        rintro e u1 ⟨rfl, rfl⟩
        go_upto_region 16 with fail
        have NX := HK.out.2.2.2.new #[.int .i64 0, .string ⟨#[]⟩] 94
        generalize u1.alloc (.cells #[.int .i64 0, .string ⟨#[]⟩] 94) = q1 at NX ⊢
        generalize u1.heap.size = gx at NX ⊢
        have R1 : Hid (RIn w q1 Cl Lb a7 s8 s24 0 (.slice ao k cv) k P ∧ Blk q1 gx 94 #[.int .i64 0, .string ⟨#[]⟩] ∧ (w.heap.size + 2 ≤ gx ∧ ∀ q, (Value.slice ao k cv).ownBlock = some q → q ≠ gx)) := NX
        have gl : gx < q1.heap.size := NX.2.1.lt
        have gw : w.heap.size + 1 < gx := by have := NX.2.2.1; omega
        clear NX
        have c3 : q1.cell? ⟨gx, 0, none⟩ = some (.int .i64 0) := R1.out.2.1.cell 0
        have x0 : q1.cell? ⟨w.heap.size, 0, none⟩ = some (.int .i64 0) := R1.out.1.res.cell 0
        have x1 : q1.cell? ⟨w.heap.size, 1, none⟩ = some (.int .i64 0) := R1.out.1.res.cell 1
        have x2 : q1.cell? ⟨w.heap.size, 2, none⟩ = some (.int .i64 0) := R1.out.1.res.cell 2
        have x3 : q1.cell? ⟨w.heap.size, 3, none⟩ = some (.int .i64 0) := R1.out.1.res.cell 3
        have x4 : q1.cell? ⟨w.heap.size, 4, none⟩ = some (.string ⟨#[]⟩) := R1.out.1.res.cell 4
        have x5 : q1.cell? ⟨w.heap.size, 5, none⟩ = some (.string ⟨#[]⟩) := R1.out.1.res.cell 5
        have x6 : q1.cell? ⟨w.heap.size, 6, none⟩ = some (.slice none 0 0) := R1.out.1.res.cell 6
        have y0 := R1.out.1.res.frozen 0
        have y1 := R1.out.1.res.frozen 1
        have y2 := R1.out.1.res.frozen 2
        have y3 := R1.out.1.res.frozen 3
        have y4 := R1.out.1.res.frozen 4
        have y5 := R1.out.1.res.frozen 5
        have y6 := R1.out.1.res.frozen 6
        go_wp2_with fail
        refine bodyPost_ret (v := .tuple #[.agg #[.int .i64 0, .int .i64 0, .int .i64 0, .int .i64 0, .string ⟨#[]⟩, .string ⟨#[]⟩, .slice none 0 0], .string ⟨#[]⟩, .int .i64 15]) ?_ rfl (took_err (E := 15) E.out (by decide) (put7_below R1.out.1.since (Nat.le_refl _) (.int .i64 0) (.int .i64 0) (.int .i64 0) (.int .i64 0) (.string ⟨#[]⟩) (.string ⟨#[]⟩) (.slice none 0 0)))
        have c7 := put7_blk (t := 66) R1.out.1.res (.int .i64 0) (.int .i64 0) (.int .i64 0) (.int .i64 0) (.string ⟨#[]⟩) (.string ⟨#[]⟩) (.slice none 0 0)
        have c70 := c7.cell 0
        have c71 := c7.cell 1
        have c72 := c7.cell 2
        have c73 := c7.cell 3
        have c74 := c7.cell 4
        have c75 := c7.cell 5
        have c76 := c7.cell 6
        change (results _ _).run _ (put7 q1 w.heap.size (.int .i64 0) (.int .i64 0) (.int .i64 0) (.int .i64 0) (.string ⟨#[]⟩) (.string ⟨#[]⟩) (.slice none 0 0)) = .ok _ (put7 q1 w.heap.size (.int .i64 0) (.int .i64 0) (.int .i64 0) (.int .i64 0) (.string ⟨#[]⟩) (.string ⟨#[]⟩) (.slice none 0 0))
        generalize put7 q1 w.heap.size (.int .i64 0) (.int .i64 0) (.int .i64 0) (.int .i64 0) (.string ⟨#[]⟩) (.string ⟨#[]⟩) (.slice none 0 0) = W7 at c70 c71 c72 c73 c74 c75 c76
        simp [results, Try.results28, go_sem, c70, c71, c72, c73, c74, c75, c76]
      obtain ⟨D, hD⟩ : ∃ D, D = dataX 0 r := ⟨_, rfl⟩
      obtain ⟨r', hr'⟩ : ∃ q, q = r.drop En := ⟨_, rfl⟩
      have DX : (bsL r).extract 2 En = bsL D := by
        rw [hD]
        unfold dataX
        rw [HE.out]
        unfold hdX
        rw [if_neg H4.out]
        exact bsL_extract r 2 En
      have DR := bsL_drop r En
      rw [bsL_size, ← hr'] at DR
      have rl' : r'.length ≤ 65535 := by rw [hr', List.length_drop]; omega
      have XX : Hid (8 ≤ r.length ∧ endX 0 r ≤ r.length ∧ atL r 0 = N ∧ dataX 0 r = D ∧ r.drop (endX 0 r) = r') := ⟨by omega, by rw [HE.out]; omega, HN.out, hD.symm, by rw [HE.out]; exact hr'.symm⟩
      have e2 : (2 : Int) ≤ (En : Int) := by omega
      have eE : (En : Int) ≤ r.length := by omega
      clear hD hr'
      clear x0 x1 x2 x3 x4 x5 x6 y0 y1 y2 y3 y4 y5 y6 f0 f1 f2 f4 f5 z0 z1 z2 z4 z5
      go_wp2_with fail
      refine (rkind_any 0 _).mono ?_
      rintro e u1 ⟨rfl, rfl⟩
      go_upto_region 16 with fail
      have NX := HK.out.2.2.2.new #[.int .i64 0, .string ⟨#[]⟩] 94
      generalize u1.alloc (.cells #[.int .i64 0, .string ⟨#[]⟩] 94) = q1 at NX ⊢
      generalize u1.heap.size = gx at NX ⊢
      have R1 : Hid (RIn w q1 Cl Lb a7 s8 s24 0 (.slice ao k cv) k P ∧ Blk q1 gx 94 #[.int .i64 0, .string ⟨#[]⟩] ∧ (w.heap.size + 2 ≤ gx ∧ ∀ q, (Value.slice ao k cv).ownBlock = some q → q ≠ gx)) := NX
      have gl : gx < q1.heap.size := NX.2.1.lt
      have gw : w.heap.size + 1 < gx := by have := NX.2.2.1; omega
      clear NX
      have c3 : q1.cell? ⟨gx, 0, none⟩ = some (.int .i64 0) := R1.out.2.1.cell 0
      have p1 : q1.cell? ⟨gx, 1, none⟩ = some (.string ⟨#[]⟩) := R1.out.2.1.cell 1
      have v1 := R1.out.2.1.frozen 1
      go_upto_region 22 with fail
      have R2 : Hid (RIn w (q1.setCell ⟨gx, 1, none⟩ (.string (bsL D))) Cl Lb a7 s8 s24 0 (.slice ao k cv) k P ∧ Blk (q1.setCell ⟨gx, 1, none⟩ (.string (bsL D))) gx 94 #[.int .i64 0, .string (bsL D)]) := ⟨R1.out.1.setx R1.out.2.2 1 _, R1.out.2.1.set 1 _⟩
      generalize q1.setCell ⟨gx, 1, none⟩ (.string (bsL D)) = q2 at R2 ⊢
      have m3 : q2.cell? ⟨w.heap.size + 1, 3, none⟩ = some (.int .i64 0) := R2.out.1.fr.cell 3
      have n3 := R2.out.1.fr.frozen 3
      clear c3 p1 v1
      go_upto_region 23 with fail
      have R3 : Hid (RIn w (q2.setCell ⟨w.heap.size + 1, 3, none⟩ (.int .i64 (N : Int))) Cl Lb a7 s8 s24 (N : Int) (.slice ao k cv) k P ∧ Blk (q2.setCell ⟨w.heap.size + 1, 3, none⟩ (.int .i64 (N : Int))) gx 94 #[.int .i64 0, .string (bsL D)]) := ⟨R2.out.1.setk (N : Int), R2.out.2.other (by show gx ≠ w.heap.size + 1; omega) _⟩
      generalize q2.setCell ⟨w.heap.size + 1, 3, none⟩ (.int .i64 (N : Int)) = q3 at R3 ⊢
      have o6 : q3.cell? ⟨w.heap.size + 1, 6, none⟩ = some (.slice ao k cv) := R3.out.1.fr.cell 6
      have o0 : q3.cell? ⟨gx, 0, none⟩ = some (.int .i64 0) := R3.out.2.cell 0
      have o1 : q3.cell? ⟨gx, 1, none⟩ = some (.string (bsL D)) := R3.out.2.cell 1
      have ql : w.heap.size + 2 ≤ q3.heap.size := R3.out.1.size
      clear m3 n3 gl
      go_wp2_with (at_builtin; refine wpList_append_lies _ rfl _ _ _ rfl (w.heap.size + 2) 94 iR (.agg #[.int .i64 0, .string ⟨#[]⟩]) 2 24 Try.underlying64 HI.out.1 HI.out.2.1 HI.out.2.2.1 HI.out.2.2.2 rfl (by omega) (.slice ao k cv) k (exCells P) (by rfl) (R3.out.1.own.alloc _) ⟨q3.heap.size, 0, none⟩ 1 1 [.int .i64 0, .string (bsL D)] (by rfl) rfl (new_pair q3 _ _ _) (ex_cell _ _) (by omega) (by unfold maxLen; omega) (by omega) (by simp; omega) _ rfl ?_; intro g1 cap1 w1 hown1 hgrow hat hlt1; have ST : Hid (_ ∧ _) := R3.out.1.step hown1 hgrow; have g6 : w1.cell? ⟨w.heap.size + 1, 6, none⟩ = some (.slice ao k cv) := ST.out.1.cell 6; have g7 := ST.out.1.frozen 6; clear hown1 hgrow hat hlt1)
      go_roundg (8 - (k + 1))
      case measure => have := HK.out.1; omega
      case rel => exact ⟨k + 1, (N : Int), r', _, _, _, ⟨rfl, rl', by simp; exact HK.out.2.1, went_next HK.out.2.2.1 HK.out.2.1 HX.out (by omega) (fun e => HZ.out (by first | exact e | trivial)) XX.out, ST.out.2⟩, rfl⟩
    have q0 : (K == 0) = false := by simpa using h0
    have HZ : Hid (K = 0 → k = 0) := fun e => absurd e h0
    clear h0
    by_cases h4 : K = 44
    · subst h4
      obtain ⟨D, hD⟩ : ∃ D, D = dataX 44 r := ⟨_, rfl⟩
      obtain ⟨r', hr'⟩ : ∃ q, q = r.drop 8 := ⟨_, rfl⟩
      have DX : (bsL r).extract 1 8 = bsL D := by rw [hD]; exact bsL_extract r 1 8
      have DR := bsL_drop r 8
      rw [bsL_size, ← hr'] at DR
      have rl' : r'.length ≤ 65535 := by rw [hr', List.length_drop]; omega
      have XX : Hid (8 ≤ r.length ∧ endX 44 r ≤ r.length ∧ atL r 0 = N ∧ dataX 44 r = D ∧ r.drop (endX 44 r) = r') := ⟨by omega, (by show 8 ≤ r.length; omega), HN.out, hD.symm, hr'.symm⟩
      clear hD hr'
      clear x0 x1 x2 x3 x4 x5 x6 y0 y1 y2 y3 y4 y5 y6 f0 f1 f2 f4 f5 z0 z1 z2 z4 z5
      go_wp2_with fail
      refine (rkind_any 44 _).mono ?_
      rintro e u1 ⟨rfl, rfl⟩
      go_upto_region 16 with fail
      have NX := HK.out.2.2.2.new #[.int .i64 44, .string ⟨#[]⟩] 94
      generalize u1.alloc (.cells #[.int .i64 44, .string ⟨#[]⟩] 94) = q1 at NX ⊢
      generalize u1.heap.size = gx at NX ⊢
      have R1 : Hid (RIn w q1 Cl Lb a7 s8 s24 44 (.slice ao k cv) k P ∧ Blk q1 gx 94 #[.int .i64 44, .string ⟨#[]⟩] ∧ (w.heap.size + 2 ≤ gx ∧ ∀ q, (Value.slice ao k cv).ownBlock = some q → q ≠ gx)) := NX
      have gl : gx < q1.heap.size := NX.2.1.lt
      have gw : w.heap.size + 1 < gx := by have := NX.2.2.1; omega
      clear NX
      have c3 : q1.cell? ⟨gx, 0, none⟩ = some (.int .i64 44) := R1.out.2.1.cell 0
      have p1 : q1.cell? ⟨gx, 1, none⟩ = some (.string ⟨#[]⟩) := R1.out.2.1.cell 1
      have v1 := R1.out.2.1.frozen 1
      go_upto_region 22 with fail
      have R2 : Hid (RIn w (q1.setCell ⟨gx, 1, none⟩ (.string (bsL D))) Cl Lb a7 s8 s24 44 (.slice ao k cv) k P ∧ Blk (q1.setCell ⟨gx, 1, none⟩ (.string (bsL D))) gx 94 #[.int .i64 44, .string (bsL D)]) := ⟨R1.out.1.setx R1.out.2.2 1 _, R1.out.2.1.set 1 _⟩
      generalize q1.setCell ⟨gx, 1, none⟩ (.string (bsL D)) = q2 at R2 ⊢
      have m3 : q2.cell? ⟨w.heap.size + 1, 3, none⟩ = some (.int .i64 44) := R2.out.1.fr.cell 3
      have n3 := R2.out.1.fr.frozen 3
      clear c3 p1 v1
      go_upto_region 23 with fail
      have R3 : Hid (RIn w (q2.setCell ⟨w.heap.size + 1, 3, none⟩ (.int .i64 (N : Int))) Cl Lb a7 s8 s24 (N : Int) (.slice ao k cv) k P ∧ Blk (q2.setCell ⟨w.heap.size + 1, 3, none⟩ (.int .i64 (N : Int))) gx 94 #[.int .i64 44, .string (bsL D)]) := ⟨R2.out.1.setk (N : Int), R2.out.2.other (by show gx ≠ w.heap.size + 1; omega) _⟩
      generalize q2.setCell ⟨w.heap.size + 1, 3, none⟩ (.int .i64 (N : Int)) = q3 at R3 ⊢
      have o6 : q3.cell? ⟨w.heap.size + 1, 6, none⟩ = some (.slice ao k cv) := R3.out.1.fr.cell 6
      have o0 : q3.cell? ⟨gx, 0, none⟩ = some (.int .i64 44) := R3.out.2.cell 0
      have o1 : q3.cell? ⟨gx, 1, none⟩ = some (.string (bsL D)) := R3.out.2.cell 1
      have ql : w.heap.size + 2 ≤ q3.heap.size := R3.out.1.size
      clear m3 n3 gl
      go_wp2_with (at_builtin; refine wpList_append_lies _ rfl _ _ _ rfl (w.heap.size + 2) 94 iR (.agg #[.int .i64 0, .string ⟨#[]⟩]) 2 24 Try.underlying64 HI.out.1 HI.out.2.1 HI.out.2.2.1 HI.out.2.2.2 rfl (by omega) (.slice ao k cv) k (exCells P) (by rfl) (R3.out.1.own.alloc _) ⟨q3.heap.size, 0, none⟩ 1 1 [.int .i64 44, .string (bsL D)] (by rfl) rfl (new_pair q3 _ _ _) (ex_cell _ _) (by omega) (by unfold maxLen; omega) (by omega) (by simp; omega) _ rfl ?_; intro g1 cap1 w1 hown1 hgrow hat hlt1; have ST : Hid (_ ∧ _) := R3.out.1.step hown1 hgrow; have g6 : w1.cell? ⟨w.heap.size + 1, 6, none⟩ = some (.slice ao k cv) := ST.out.1.cell 6; have g7 := ST.out.1.frozen 6; clear hown1 hgrow hat hlt1)
      go_roundg (8 - (k + 1))
      case measure => have := HK.out.1; omega
      case rel => exact ⟨k + 1, (N : Int), r', _, _, _, ⟨rfl, rl', by simp; exact HK.out.2.1, went_next HK.out.2.2.1 HK.out.2.1 HX.out (by omega) (fun e => HZ.out (by first | exact e | trivial)) XX.out, ST.out.2⟩, rfl⟩
    have q4 : (K == 44) = false := by simpa using h4
    have H4 : Hid (K ≠ 44) := h4
    clear h4
    obtain ⟨V1, hV⟩ : ∃ V, V = atL r 1 + 1 := ⟨_, rfl⟩
    obtain ⟨En, hE⟩ : ∃ En, En = 8 * V1 := ⟨_, rfl⟩
    have zV : (atL r 1 : Int) + 1 = (V1 : Int) := by omega
    have zE : (8 : Int) * (V1 : Int) = (En : Int) := by omega
    have V9 : V1 ≤ 256 := by omega
    have HE : Hid (endX K r = En) := by show endX K r = En; unfold endX; rw [if_neg H4.out, hE, hV]
    have E8 : 8 ≤ En := by omega
    have E9 : En ≤ 2048 := by omega
    clear hE hV
    by_cases tE : (r.length : Int) < En
    · have E : Hid (takeE l = 15) := NO.out (went_err HK.out.2.2.1 HX.out (Or.inr (Or.inr (Or.inr (by rw [HE.out]; omega)))))
      clear x0 x1 x2 x3 x4 x5 x6 y0 y1 y2 y3 y4 y5 y6 f0 f1 f2 f4 f5 z0 z1 z2 z4 z5
      go_wp2_with fail
      refine (rkind_any K _).mono ?_
      rintro e u1 ⟨rfl, rfl⟩
      go_upto_region 16 with fail
      have NX := HK.out.2.2.2.new #[.int .i64 K, .string ⟨#[]⟩] 94
      generalize u1.alloc (.cells #[.int .i64 K, .string ⟨#[]⟩] 94) = q1 at NX ⊢
      generalize u1.heap.size = gx at NX ⊢
      have R1 : Hid (RIn w q1 Cl Lb a7 s8 s24 K (.slice ao k cv) k P ∧ Blk q1 gx 94 #[.int .i64 K, .string ⟨#[]⟩] ∧ (w.heap.size + 2 ≤ gx ∧ ∀ q, (Value.slice ao k cv).ownBlock = some q → q ≠ gx)) := NX
      have gl : gx < q1.heap.size := NX.2.1.lt
      have gw : w.heap.size + 1 < gx := by have := NX.2.2.1; omega
      clear NX
      have c3 : q1.cell? ⟨gx, 0, none⟩ = some (.int .i64 K) := R1.out.2.1.cell 0
      have x0 : q1.cell? ⟨w.heap.size, 0, none⟩ = some (.int .i64 0) := R1.out.1.res.cell 0
      have x1 : q1.cell? ⟨w.heap.size, 1, none⟩ = some (.int .i64 0) := R1.out.1.res.cell 1
      have x2 : q1.cell? ⟨w.heap.size, 2, none⟩ = some (.int .i64 0) := R1.out.1.res.cell 2
      have x3 : q1.cell? ⟨w.heap.size, 3, none⟩ = some (.int .i64 0) := R1.out.1.res.cell 3
      have x4 : q1.cell? ⟨w.heap.size, 4, none⟩ = some (.string ⟨#[]⟩) := R1.out.1.res.cell 4
      have x5 : q1.cell? ⟨w.heap.size, 5, none⟩ = some (.string ⟨#[]⟩) := R1.out.1.res.cell 5
      have x6 : q1.cell? ⟨w.heap.size, 6, none⟩ = some (.slice none 0 0) := R1.out.1.res.cell 6
      have y0 := R1.out.1.res.frozen 0
      have y1 := R1.out.1.res.frozen 1
      have y2 := R1.out.1.res.frozen 2
      have y3 := R1.out.1.res.frozen 3
      have y4 := R1.out.1.res.frozen 4
      have y5 := R1.out.1.res.frozen 5
      have y6 := R1.out.1.res.frozen 6
      go_wp2_with fail
      refine bodyPost_ret (v := .tuple #[.agg #[.int .i64 0, .int .i64 0, .int .i64 0, .int .i64 0, .string ⟨#[]⟩, .string ⟨#[]⟩, .slice none 0 0], .string ⟨#[]⟩, .int .i64 15]) ?_ rfl (took_err (E := 15) E.out (by decide) (put7_below R1.out.1.since (Nat.le_refl _) (.int .i64 0) (.int .i64 0) (.int .i64 0) (.int .i64 0) (.string ⟨#[]⟩) (.string ⟨#[]⟩) (.slice none 0 0)))
      have c7 := put7_blk (t := 66) R1.out.1.res (.int .i64 0) (.int .i64 0) (.int .i64 0) (.int .i64 0) (.string ⟨#[]⟩) (.string ⟨#[]⟩) (.slice none 0 0)
      have c70 := c7.cell 0
      have c71 := c7.cell 1
      have c72 := c7.cell 2
      have c73 := c7.cell 3
      have c74 := c7.cell 4
      have c75 := c7.cell 5
      have c76 := c7.cell 6
      change (results _ _).run _ (put7 q1 w.heap.size (.int .i64 0) (.int .i64 0) (.int .i64 0) (.int .i64 0) (.string ⟨#[]⟩) (.string ⟨#[]⟩) (.slice none 0 0)) = .ok _ (put7 q1 w.heap.size (.int .i64 0) (.int .i64 0) (.int .i64 0) (.int .i64 0) (.string ⟨#[]⟩) (.string ⟨#[]⟩) (.slice none 0 0))
      generalize put7 q1 w.heap.size (.int .i64 0) (.int .i64 0) (.int .i64 0) (.int .i64 0) (.string ⟨#[]⟩) (.string ⟨#[]⟩) (.slice none 0 0) = W7 at c70 c71 c72 c73 c74 c75 c76
      simp [results, Try.results28, go_sem, c70, c71, c72, c73, c74, c75, c76]
    obtain ⟨D, hD⟩ : ∃ D, D = dataX K r := ⟨_, rfl⟩
    obtain ⟨r', hr'⟩ : ∃ q, q = r.drop En := ⟨_, rfl⟩
    have DX : (bsL r).extract 2 En = bsL D := by
      rw [hD]
      unfold dataX
      rw [HE.out]
      unfold hdX
      rw [if_neg H4.out]
      exact bsL_extract r 2 En
    have DR := bsL_drop r En
    rw [bsL_size, ← hr'] at DR
    have rl' : r'.length ≤ 65535 := by rw [hr', List.length_drop]; omega
    have XX : Hid (8 ≤ r.length ∧ endX K r ≤ r.length ∧ atL r 0 = N ∧ dataX K r = D ∧ r.drop (endX K r) = r') := ⟨by omega, by rw [HE.out]; omega, HN.out, hD.symm, by rw [HE.out]; exact hr'.symm⟩
    have e2 : (2 : Int) ≤ (En : Int) := by omega
    have eE : (En : Int) ≤ r.length := by omega
    clear hD hr'
    clear x0 x1 x2 x3 x4 x5 x6 y0 y1 y2 y3 y4 y5 y6 f0 f1 f2 f4 f5 z0 z1 z2 z4 z5
    go_wp2_with fail
    refine (rkind_any K _).mono ?_
    rintro e u1 ⟨rfl, rfl⟩
    go_upto_region 16 with fail
    have NX := HK.out.2.2.2.new #[.int .i64 K, .string ⟨#[]⟩] 94
    generalize u1.alloc (.cells #[.int .i64 K, .string ⟨#[]⟩] 94) = q1 at NX ⊢
    generalize u1.heap.size = gx at NX ⊢
    have R1 : Hid (RIn w q1 Cl Lb a7 s8 s24 K (.slice ao k cv) k P ∧ Blk q1 gx 94 #[.int .i64 K, .string ⟨#[]⟩] ∧ (w.heap.size + 2 ≤ gx ∧ ∀ q, (Value.slice ao k cv).ownBlock = some q → q ≠ gx)) := NX
    have gl : gx < q1.heap.size := NX.2.1.lt
    have gw : w.heap.size + 1 < gx := by have := NX.2.2.1; omega
    clear NX
    have c3 : q1.cell? ⟨gx, 0, none⟩ = some (.int .i64 K) := R1.out.2.1.cell 0
    have p1 : q1.cell? ⟨gx, 1, none⟩ = some (.string ⟨#[]⟩) := R1.out.2.1.cell 1
    have v1 := R1.out.2.1.frozen 1
    go_upto_region 22 with fail
    have R2 : Hid (RIn w (q1.setCell ⟨gx, 1, none⟩ (.string (bsL D))) Cl Lb a7 s8 s24 K (.slice ao k cv) k P ∧ Blk (q1.setCell ⟨gx, 1, none⟩ (.string (bsL D))) gx 94 #[.int .i64 K, .string (bsL D)]) := ⟨R1.out.1.setx R1.out.2.2 1 _, R1.out.2.1.set 1 _⟩
    generalize q1.setCell ⟨gx, 1, none⟩ (.string (bsL D)) = q2 at R2 ⊢
    have m3 : q2.cell? ⟨w.heap.size + 1, 3, none⟩ = some (.int .i64 K) := R2.out.1.fr.cell 3
    have n3 := R2.out.1.fr.frozen 3
    clear c3 p1 v1
    go_upto_region 23 with fail
    have R3 : Hid (RIn w (q2.setCell ⟨w.heap.size + 1, 3, none⟩ (.int .i64 (N : Int))) Cl Lb a7 s8 s24 (N : Int) (.slice ao k cv) k P ∧ Blk (q2.setCell ⟨w.heap.size + 1, 3, none⟩ (.int .i64 (N : Int))) gx 94 #[.int .i64 K, .string (bsL D)]) := ⟨R2.out.1.setk (N : Int), R2.out.2.other (by show gx ≠ w.heap.size + 1; omega) _⟩
    generalize q2.setCell ⟨w.heap.size + 1, 3, none⟩ (.int .i64 (N : Int)) = q3 at R3 ⊢
    have o6 : q3.cell? ⟨w.heap.size + 1, 6, none⟩ = some (.slice ao k cv) := R3.out.1.fr.cell 6
    have o0 : q3.cell? ⟨gx, 0, none⟩ = some (.int .i64 K) := R3.out.2.cell 0
    have o1 : q3.cell? ⟨gx, 1, none⟩ = some (.string (bsL D)) := R3.out.2.cell 1
    have ql : w.heap.size + 2 ≤ q3.heap.size := R3.out.1.size
    clear m3 n3 gl
    go_wp2_with (at_builtin; refine wpList_append_lies _ rfl _ _ _ rfl (w.heap.size + 2) 94 iR (.agg #[.int .i64 0, .string ⟨#[]⟩]) 2 24 Try.underlying64 HI.out.1 HI.out.2.1 HI.out.2.2.1 HI.out.2.2.2 rfl (by omega) (.slice ao k cv) k (exCells P) (by rfl) (R3.out.1.own.alloc _) ⟨q3.heap.size, 0, none⟩ 1 1 [.int .i64 K, .string (bsL D)] (by rfl) rfl (new_pair q3 _ _ _) (ex_cell _ _) (by omega) (by unfold maxLen; omega) (by omega) (by simp; omega) _ rfl ?_; intro g1 cap1 w1 hown1 hgrow hat hlt1; have ST : Hid (_ ∧ _) := R3.out.1.step hown1 hgrow; have g6 : w1.cell? ⟨w.heap.size + 1, 6, none⟩ = some (.slice ao k cv) := ST.out.1.cell 6; have g7 := ST.out.1.frozen 6; clear hown1 hgrow hat hlt1)
    go_roundg (8 - (k + 1))
    case measure => have := HK.out.1; omega
    case rel => exact ⟨k + 1, (N : Int), r', _, _, _, ⟨rfl, rl', by simp; exact HK.out.2.1, went_next HK.out.2.2.1 HK.out.2.1 HX.out (by omega) (fun e => HZ.out (by first | exact e | trivial)) XX.out, ST.out.2⟩, rfl⟩
end Go.Proofs.Yticopigpgaomjaa.L7
