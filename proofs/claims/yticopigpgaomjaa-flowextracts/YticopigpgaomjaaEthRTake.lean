
/-
  The reference's Take: what it answers of any bytes.
-/
import Derived.Test.YticopigpgaomjaaEthTake
import Derived.Deep.RegionLaw
import Derived.BigRegion
namespace Go.Proofs.Yticopigpgaomjaa.L5
open Go.RowKit Oc Et Go.Deep
set_option linter.unusedVariables false

/-- What the loop of the reference's Take keeps. -/
structure RTakeIn (w wr : World) (l : List UInt8) (v : Value) (k : Nat) : Prop where
  since : Below w.heap.size w wr
  size : w.heap.size + 2 ≤ wr.heap.size
  ok : OkAt l k
  res : Blk wr w.heap.size 58 #[.string ⟨#[]⟩, .string ⟨#[]⟩, .slice none 0 0, .int .i64 0]
  fr : Blk wr (w.heap.size + 1) 58 #[.string (bsL (l.take 6)), .string (bsL ((l.drop 6).take 6)), v, .int .i64 0]
  own : wr.ownsRow (w.heap.size + 2) 92 2 v k (tagCells (fun i => (kindAt l i : Int)) (fun i => (valAt l i : Int)) k)

theorem RTakeIn.drewN {w wr : World} {l : List UInt8} {v : Value} {k : Nat} (h : RTakeIn w wr l v k) (q : Nat) : RTakeIn w (wr.drewN q) l v k := ⟨below_drewN h.since q, h.size, h.ok, h.res, h.fr, h.own⟩
theorem Blk.drew {w : World} {g : Nat} {t : TypeId} {cs : Array Value} (h : Blk w g t cs) : Blk w.drew g t cs := h
theorem RTakeIn.done {w wr : World} {l : List UInt8} {v x : Value} {k : Nat} (h : RTakeIn w wr l v k) (h1 : 14 + 4 * k ≤ l.length) (h2 : isK (kindAt l k) = false) (a b c d : Value) :
    Blk (put4 (wr.setCell ⟨w.heap.size + 1, 3, none⟩ x) w.heap.size a b c d).drew w.heap.size 58 #[a, b, c, d] ∧
    Took w l (.returned (.tuple #[.agg #[.string (bsL (l.take 6)), .string (bsL ((l.drop 6).take 6)), v, .int .i64 (kindAt l k : Int)], .string (bsL (l.drop (14 + 4 * k))), .int .i64 0])) (put4 (wr.setCell ⟨w.heap.size + 1, 3, none⟩ x) w.heap.size a b c d).drew := by
  have r1 : Blk (wr.setCell ⟨w.heap.size + 1, 3, none⟩ x) w.heap.size 58 #[.string ⟨#[]⟩, .string ⟨#[]⟩, .slice none 0 0, .int .i64 0] := h.res.other (by show w.heap.size ≠ w.heap.size + 1; omega) x
  have o1 := put4_owns (ownsRow_setCell_below h.own (a := ⟨w.heap.size + 1, 3, none⟩) (by show w.heap.size + 1 < w.heap.size + 2; omega) x) (g := w.heap.size) (by omega) a b c d
  have s1 := (put4_below (h.since.setCell (p := ⟨w.heap.size + 1, 3, none⟩) (by show w.heap.size ≤ w.heap.size + 1; omega) x) (Nat.le_refl w.heap.size) a b c d).drew
  have dn := take_done h.ok h1 h2
  obtain ⟨e1, e2⟩ := fr_ok dn
  have o2 := owns_tags o1.drew
  have r2 := (put4_blk r1 a b c d).drew
  generalize (put4 (wr.setCell ⟨w.heap.size + 1, 3, none⟩ x) w.heap.size a b c d).drew = W at s1 o2 r2
  clear o1 r1
  refine ⟨r2, _, by rw [e2, dn.1]; rfl, ?_, s1⟩
  rw [e1]
  exact ⟨v, rfl, o2⟩
theorem RTakeIn.step {w wr w1 : World} {l : List UInt8} {v v' : Value} {k : Nat} {b : Obj} (h : RTakeIn w wr l v k) (hk : k < 2) (h1 : 16 + 4 * k ≤ l.length) (h2 : isK (kindAt l k) = true) {y : Int} (hy : y = (valAt l k : Int))
    (hown : w1.ownsRow (w.heap.size + 2) 92 2 v' (k + 1) (tagCells (fun i => (kindAt l i : Int)) (fun i => (valAt l i : Int)) k ++ [.int .i64 (kindAt l k : Int), .int .i64 y])) (hg : (wr.alloc b).grownBy w1 v.ownBlock) :
    Blk w1 (w.heap.size + 1) 58 #[.string (bsL (l.take 6)), .string (bsL ((l.drop 6).take 6)), v, .int .i64 0] ∧ RTakeIn w (w1.setCell ⟨w.heap.size + 1, 2, none⟩ v') l v' (k + 1) := by
  subst hy
  have far : ∀ q, v.ownBlock = some q → w.heap.size + 2 ≤ q := fun q e => (h.own.lt q e).1
  have sz := h.size
  have b1 : Blk w1 w.heap.size 58 #[.string ⟨#[]⟩, .string ⟨#[]⟩, .slice none 0 0, .int .i64 0] := (h.res.alloc b).grown hg fun e => by have := far _ e.symm; omega
  have b2 : Blk w1 (w.heap.size + 1) 58 #[.string (bsL (l.take 6)), .string (bsL ((l.drop 6).take 6)), v, .int .i64 0] := (h.fr.alloc b).grown hg fun e => by have := far _ e.symm; omega
  have s1 : Below w.heap.size w w1 := (h.since.alloc h.since.size b).grown hg (by have := h.since.size; simp; omega) fun q e => by have := far q e; omega
  have z1 := hg.size
  simp only [World.size_alloc] at z1
  refine ⟨b2, s1.setCell (by show w.heap.size ≤ w.heap.size + 1; omega) _, ?_, okAt_succ h.ok hk h1 h2, b1.other (by show w.heap.size ≠ w.heap.size + 1; omega) _, b2.set 2 v', ownsRow_setCell_below hown (by show w.heap.size + 1 < w.heap.size + 2; omega) _⟩
  have : (w1.setCell ⟨w.heap.size + 1, 2, none⟩ v').heap.size = w1.heap.size := by simp [World.setCell]
  omega
set_option maxHeartbeats 3200000 in
theorem rtake_any (w : World) (l : List UInt8) (hm : l.length ≤ 1152921504606846976) : Calls Try.prog 26 #[.string (bsL l)] w (Took w l) := by
  obtain ⟨i53, hi, hz, hs, hb⟩ := info53
  have HI : Hid (Try.prog.info? 92 = some i53 ∧ i53.zero = some (.agg #[.int .i64 0, .int .i64 0]) ∧ i53.size = 2 ∧ i53.bytes = 16) := ⟨hi, hz, hs, hb⟩
  clear hi hz hs hb
  by_cases h1 : l.length < 14
  · have E : Hid (takeE l = 2) := by show takeE l = 2; unfold takeE; rw [if_pos h1]
    go_enter Try.func26, Try.ntmps26
    go_wp2_with fail
    go_returns
    exact took_err (c := 2) E.out (by decide) ((Below.refl _ _).alloc (Nat.le_refl _) _)
  have l6 : (6 : Int) ≤ l.length := by omega
  have l12 : (12 : Int) ≤ l.length := by omega
  have D : (bsL l).extract 6 12 = bsL ((l.drop 6).take 6) := bsL_extract l 6 12
  go_enter Try.func26, Try.ntmps26
  go_wp2_with fail
  go_region
  have START : Hid (RTakeIn w (((w.alloc (.cells #[.string ⟨#[]⟩, .string ⟨#[]⟩, .slice none 0 0, .int .i64 0] 58)).alloc (.cells #[.string (bsL (l.take 6)), .string (bsL ((l.drop 6).take 6)), .slice none 0 0, .int .i64 0] 58)).drew) l (.slice none 0 0) 0) := by
    refine ⟨(((Below.refl _ _).alloc (Nat.le_refl _) _).alloc (by simp) _).drew, by simp [World.drew], okAt_zero (by omega), ?_, ?_, World.ownsRow_nil _ _ _ _⟩
    · exact (Blk.new w 58 #[.string ⟨#[]⟩, .string ⟨#[]⟩, .slice none 0 0, .int .i64 0]).alloc _
    · have e := Blk.new (w.alloc (.cells #[.string ⟨#[]⟩, .string ⟨#[]⟩, .slice none 0 0, .int .i64 0] 58)) 58 #[.string (bsL (l.take 6)), .string (bsL ((l.drop 6).take 6)), .slice none 0 0, .int .i64 0]
      simp only [World.size_alloc] at e
      exact e
  go_wp2_with fail
  go_loopg [6] 3 (fun g t wr => ∃ (k T : Nat) (ao : Option Addr) (cv : Nat), (g = 3 - k ∧ T = 12 + 4 * k ∧ RTakeIn w wr l (.slice ao k cv) k) ∧ t = .int .i64 (T : Int))
  case atStart => exact ⟨0, 12, none, 0, ⟨rfl, rfl, START.out⟩, rfl⟩
  case round =>
    clear START
    obtain ⟨k, T, ao, cv, ⟨hg, hT, hR⟩, rfl⟩ := hrel
    have HK : Hid (gk = 3 - k ∧ T = 12 + 4 * k ∧ RTakeIn w wr l (.slice ao k cv) k) := ⟨hg, hT, hR⟩
    have hk2 : k ≤ 2 := hR.ok.2.1
    have hkl : 12 + 4 * k ≤ l.length := hR.ok.1
    have hsz := hR.size
    have hT1 : T ≤ 20 := by omega
    have r0 : wr.cell? ⟨w.heap.size, 0, none⟩ = some (.string ⟨#[]⟩) := hR.res.cell 0
    have r1 : wr.cell? ⟨w.heap.size, 1, none⟩ = some (.string ⟨#[]⟩) := hR.res.cell 1
    have r2 : wr.cell? ⟨w.heap.size, 2, none⟩ = some (.slice none 0 0) := hR.res.cell 2
    have r3 : wr.cell? ⟨w.heap.size, 3, none⟩ = some (.int .i64 0) := hR.res.cell 3
    have z0 := hR.res.frozen 0
    have z1 := hR.res.frozen 1
    have z2 := hR.res.frozen 2
    have z3 := hR.res.frozen 3
    have f0 : wr.cell? ⟨w.heap.size + 1, 0, none⟩ = some (.string (bsL (l.take 6))) := hR.fr.cell 0
    have f1 : wr.cell? ⟨w.heap.size + 1, 1, none⟩ = some (.string (bsL ((l.drop 6).take 6))) := hR.fr.cell 1
    have f2 : wr.cell? ⟨w.heap.size + 1, 2, none⟩ = some (.slice ao k cv) := hR.fr.cell 2
    have f3 : wr.cell? ⟨w.heap.size + 1, 3, none⟩ = some (.int .i64 0) := hR.fr.cell 3
    have y2 := hR.fr.frozen 2
    have y3 := hR.fr.frozen 3
    clear hg hR hT
    by_cases h2 : (T : Int) + 1 < l.length
    rotate_left
    · have E : Hid (takeE l = 2) := take_short1 HK.out.2.2.ok (by have := HK.out.2.1; omega)
      go_wp2_with fail
      refine bodyPost_ret (v := .tuple #[.agg #[.string ⟨#[]⟩, .string ⟨#[]⟩, .slice none 0 0, .int .i64 0], .string ⟨#[]⟩, .int .i64 2]) ?_ rfl (took_err (c := 2) E.out (by decide) (put4_below HK.out.2.2.since (Nat.le_refl _) _ _ _ _))
      have c4 := put4_blk HK.out.2.2.res (.string ⟨#[]⟩) (.string ⟨#[]⟩) (.slice none 0 0) (.int .i64 0)
      have c40 := c4.cell 0
      have c41 := c4.cell 1
      have c42 := c4.cell 2
      have c43 := c4.cell 3
      change (results _ _).run _ (put4 wr w.heap.size (.string ⟨#[]⟩) (.string ⟨#[]⟩) (.slice none 0 0) (.int .i64 0)) = .ok _ (put4 wr w.heap.size (.string ⟨#[]⟩) (.string ⟨#[]⟩) (.slice none 0 0) (.int .i64 0))
      generalize put4 wr w.heap.size (.string ⟨#[]⟩) (.string ⟨#[]⟩) (.slice none 0 0) (.int .i64 0) = W4 at c40 c41 c42 c43
      simp [results, Try.results26, go_sem, c40, c41, c42, c43]
    have l0 : (T : Int) < l.length := by omega
    have l2 : (T : Int) + 2 ≤ l.length := by omega
    have n0 : T < l.length := by omega
    have n1 : T + 1 < l.length := by omega
    have a0 := atL_lt l T
    have a1 := atL_lt l (T + 1)
    have NQ : Hid ((256 * (atL l T : Int) + (atL l (T + 1) : Int)) = (kindAt l k : Int)) := by
      show (256 * (atL l T : Int) + (atL l (T + 1) : Int)) = (kindAt l k : Int)
      have e : kindAt l k = 256 * atL l T + atL l (T + 1) := by unfold kindAt pairL; rw [← HK.out.2.1]
      omega
    have hkd : kindAt l k < 65536 := pairL_lt l _
    by_cases hK : isK (kindAt l k) = true
    rotate_left
    · have hK' : isK (kindAt l k) = false := by simpa using hK
      clear hK
      have D2 := bsL_drop l (T + 2)
      rw [bsL_size] at D2
      go_wp2_with fail
      go_quiet (fail)
      go_wp2_with fail
      rw [NQ.out]
      refine (tag_any (kindAt l k) _).mono ?_
      rintro e u1 ⟨rfl, rfl⟩
      go_wp2_with fail
      go_region
      have hT := HK.out.2.1
      go_wp2_with fail
      obtain ⟨c4, pq⟩ := (HK.out.2.2.drewN nq).done (x := .int .i64 (kindAt l k : Int)) (by omega) hK' (.string (bsL (l.take 6))) (.string (bsL ((l.drop 6).take 6))) (.slice ao k cv) (.int .i64 (kindAt l k : Int))
      rw [D2, show T + 2 = 14 + 4 * k by omega]
      refine bodyPost_ret (v := .tuple #[.agg #[.string (bsL (l.take 6)), .string (bsL ((l.drop 6).take 6)), .slice ao k cv, .int .i64 (kindAt l k : Int)], .string (bsL (l.drop (14 + 4 * k))), .int .i64 0]) ?_ rfl pq
      have c40 := c4.cell 0
      have c41 := c4.cell 1
      have c42 := c4.cell 2
      have c43 := c4.cell 3
      change (results _ _).run _ ((put4 ((wr.drewN nq).setCell ⟨w.heap.size + 1, 3, none⟩ (.int .i64 (kindAt l k : Int))) w.heap.size (.string (bsL (l.take 6))) (.string (bsL ((l.drop 6).take 6))) (.slice ao k cv) (.int .i64 (kindAt l k : Int))).drew) = .ok _ ((put4 ((wr.drewN nq).setCell ⟨w.heap.size + 1, 3, none⟩ (.int .i64 (kindAt l k : Int))) w.heap.size (.string (bsL (l.take 6))) (.string (bsL ((l.drop 6).take 6))) (.slice ao k cv) (.int .i64 (kindAt l k : Int))).drew)
      generalize (put4 ((wr.drewN nq).setCell ⟨w.heap.size + 1, 3, none⟩ (.int .i64 (kindAt l k : Int))) w.heap.size (.string (bsL (l.take 6))) (.string (bsL ((l.drop 6).take 6))) (.slice ao k cv) (.int .i64 (kindAt l k : Int))).drew = W4 at c40 c41 c42 c43
      simp [results, Try.results26, go_sem, c40, c41, c42, c43]
    by_cases hk : k = 2
    · subst hk
      have E : Hid (takeE l = 9) := take_more HK.out.2.2.ok (by have := HK.out.2.1; omega) hK
      go_wp2_with fail
      go_quiet (fail)
      go_wp2_with fail
      rw [NQ.out]
      refine (tag_any (kindAt l 2) _).mono ?_
      rintro e u1 ⟨rfl, rfl⟩
      go_wp2_with fail
      refine bodyPost_ret (v := .tuple #[.agg #[.string ⟨#[]⟩, .string ⟨#[]⟩, .slice none 0 0, .int .i64 0], .string ⟨#[]⟩, .int .i64 9]) ?_ rfl (took_err (c := 9) E.out (by decide) (put4_below (HK.out.2.2.drewN nq).since (Nat.le_refl _) _ _ _ _))
      have c4 := put4_blk (HK.out.2.2.drewN nq).res (.string ⟨#[]⟩) (.string ⟨#[]⟩) (.slice none 0 0) (.int .i64 0)
      have c40 := c4.cell 0
      have c41 := c4.cell 1
      have c42 := c4.cell 2
      have c43 := c4.cell 3
      change (results _ _).run _ (put4 (wr.drewN nq) w.heap.size (.string ⟨#[]⟩) (.string ⟨#[]⟩) (.slice none 0 0) (.int .i64 0)) = .ok _ (put4 (wr.drewN nq) w.heap.size (.string ⟨#[]⟩) (.string ⟨#[]⟩) (.slice none 0 0) (.int .i64 0))
      generalize put4 (wr.drewN nq) w.heap.size (.string ⟨#[]⟩) (.string ⟨#[]⟩) (.slice none 0 0) (.int .i64 0) = W4 at c40 c41 c42 c43
      simp [results, Try.results26, go_sem, c40, c41, c42, c43]
    have hkq : ((k : Int) == 2) = false := by simp; omega
    have hkn : k < 2 := by omega
    have HKK : Hid (isK (kindAt l k) = true) := hK
    by_cases h3 : (T : Int) + 3 < l.length
    rotate_left
    · have h3' : (l.length : Int) ≤ (T : Int) + 3 := by omega
      have E : Hid (takeE l = 2) := take_short2 HK.out.2.2.ok hkn (by have := HK.out.2.1; omega) (by have := HK.out.2.1; omega) HKK.out
      clear h3
      go_wp2_with fail
      go_quiet (fail)
      go_wp2_with fail
      rw [NQ.out]
      refine (tag_any (kindAt l k) _).mono ?_
      rintro e u1 ⟨rfl, rfl⟩
      go_wp2_with fail
      refine bodyPost_ret (v := .tuple #[.agg #[.string ⟨#[]⟩, .string ⟨#[]⟩, .slice none 0 0, .int .i64 0], .string ⟨#[]⟩, .int .i64 2]) ?_ rfl (took_err (c := 2) E.out (by decide) (put4_below (HK.out.2.2.drewN nq).since (Nat.le_refl _) _ _ _ _))
      have c4 := put4_blk (HK.out.2.2.drewN nq).res (.string ⟨#[]⟩) (.string ⟨#[]⟩) (.slice none 0 0) (.int .i64 0)
      have c40 := c4.cell 0
      have c41 := c4.cell 1
      have c42 := c4.cell 2
      have c43 := c4.cell 3
      change (results _ _).run _ (put4 (wr.drewN nq) w.heap.size (.string ⟨#[]⟩) (.string ⟨#[]⟩) (.slice none 0 0) (.int .i64 0)) = .ok _ (put4 (wr.drewN nq) w.heap.size (.string ⟨#[]⟩) (.string ⟨#[]⟩) (.slice none 0 0) (.int .i64 0))
      generalize put4 (wr.drewN nq) w.heap.size (.string ⟨#[]⟩) (.string ⟨#[]⟩) (.slice none 0 0) (.int .i64 0) = W4 at c40 c41 c42 c43
      simp [results, Try.results26, go_sem, c40, c41, c42, c43]
    obtain ⟨U, hU⟩ : ∃ U : Nat, U = T + 2 := ⟨_, rfl⟩
    have hUi : (T : Int) + 2 = (U : Int) := by omega
    have HU : Hid (U = T + 2 ∧ (T : Int) + 2 = (U : Int)) := ⟨hU, hUi⟩
    have l3 : (U : Int) < l.length := by omega
    have l4 : (U : Int) + 1 < l.length := by omega
    have n2 : U < l.length := by omega
    have n3 : U + 1 < l.length := by omega
    have a2 := atL_lt l U
    have a3 := atL_lt l (U + 1)
    have u20 : U ≤ 22 := by omega
    clear hU hUi
    go_wp2_with fail
    go_quiet (fail)
    go_wp2_with fail
    rw [NQ.out]
    refine (tag_any (kindAt l k) _).mono ?_
    rintro e u1 ⟨rfl, rfl⟩
    go_wp2_with fail
    rw [HU.out.2]
    have HQ : RTakeIn w (wr.drewN nq) l (.slice ao k cv) k := HK.out.2.2.drewN nq
    generalize wr.drewN nq = wq at HQ
    have VQ : (256 * (atL l U : Int) + (atL l (U + 1) : Int)) = (valAt l k : Int) := by
      have e : valAt l k = 256 * atL l U + atL l (U + 1) := by unfold valAt pairL; rw [HU.out.1, HK.out.2.1, show 12 + 4 * k + 2 = 14 + 4 * k by omega]
      omega
    clear r0 r1 r2 r3 z0 z1 z2 z3 f0 f1 f2 f3 y2 y3
    have f2 : wq.cell? ⟨w.heap.size + 1, 2, none⟩ = some (.slice ao k cv) := HQ.fr.cell 2
    have y2 := HQ.fr.frozen 2
    have hsq := HQ.size
    have hl2 : w.heap.size + 1 < wq.heap.size := by omega
    have HQ' : Hid (RTakeIn w wq l (.slice ao k cv) k) := HQ
    have HO : Hid (wq.ownsRow (w.heap.size + 2) 92 2 (.slice ao k cv) k (tagCells (fun i => (kindAt l i : Int)) (fun i => (valAt l i : Int)) k)) := HQ.own
    clear HQ
    have VH : Hid ((256 * (atL l U : Int) + (atL l (U + 1) : Int)) = (valAt l k : Int)) := VQ
    clear VQ
    have hlen : Hid (16 + 4 * k ≤ l.length) := by show 16 + 4 * k ≤ l.length; have := HU.out.1; have := HK.out.2.1; omega
    have w1 : IntKind.i64.wrap ((U : Int) + 1) = (U : Int) + 1 := by rw [IntKind.wrap_i64]; omega
    have w2 : IntKind.i64.wrap (256 * (atL l U : Int)) = 256 * (atL l U : Int) := by rw [IntKind.wrap_i64]; omega
    have w3 : IntKind.i64.wrap (256 * (atL l U : Int) + (atL l (U + 1) : Int)) = 256 * (atL l U : Int) + (atL l (U + 1) : Int) := by rw [IntKind.wrap_i64]; omega
    have w4 : IntKind.i64.wrap (atL l U : Int) = (atL l U : Int) := by rw [IntKind.wrap_i64]; omega
    have w5 : IntKind.i64.wrap (atL l (U + 1) : Int) = (atL l (U + 1) : Int) := by rw [IntKind.wrap_i64]; omega
    have p0 : (0 : Int) ≤ (U : Int) + 1 := by omega
    have t0 : ((U : Int) + 1).toNat = U + 1 := by omega
    go_region_law (refine step_append_lies _ rfl (.tmp 56) (.tmp 70) 56 rfl (w.heap.size + 2) 92 i53 (.agg #[.int .i64 0, .int .i64 0]) 2 16 Try.underlying56 HI.out.1 HI.out.2.1 HI.out.2.2.1 HI.out.2.2.2 rfl (by omega) (.slice ao k cv) k (tagCells (fun i => (kindAt l i : Int)) (fun i => (valAt l i : Int)) k) (by simp [Act.eval]) (HO.out.alloc _) ⟨wq.heap.size, 0, none⟩ 1 1 [.int .i64 (kindAt l k : Int), .int .i64 (256 * (atL l U : Int) + (atL l (U + 1) : Int))] (by simp [Act.eval]) rfl (new_tag wq _ _ _) (tag_cell _ _) (by omega) (by unfold maxLen; omega) (by omega) (by simp; omega) (wq.heap.size + 1) (by simp) ?_; intro g cap1 w1 hown1 hgrow hat hlt1; have ST : Hid (_ ∧ _) := HQ'.out.step hkn hlen.out HKK.out VH.out hown1 (b := .cells #[.int .i64 (kindAt l k : Int), .int .i64 (256 * (atL l U : Int) + (atL l (U + 1) : Int))] 92) ⟨hgrow.os, hgrow.tape, hgrow.output, hgrow.size, hgrow.block⟩; have g2 : w1.cell? ⟨w.heap.size + 1, 2, none⟩ = some (.slice ao k cv) := ST.out.1.cell 2; have g3 := ST.out.1.frozen 2; clear hown1 hgrow hat hlt1)
    all_goals go_wp2_with fail
    all_goals go_roundg (3 - (k + 1))
    all_goals first | (have := HK.out.1; omega) | exact ⟨k + 1, U + 2, _, _, ⟨rfl, (by have := HU.out.1; have := HK.out.2.1; omega), ST.out.2⟩, by go_num⟩
end Go.Proofs.Yticopigpgaomjaa.L5
