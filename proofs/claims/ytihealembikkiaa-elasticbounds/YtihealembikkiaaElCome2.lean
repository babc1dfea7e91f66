
/-
  come of layer 15 (elastic), where the bucket has room: an entry more.
-/
import Derived.Test.YtihealembikkiaaElCome
import Derived.Deep.AppendLies
namespace Go.Proofs.Ytihealembikkiaa
open Go.RowKit Fm Bl Lt El L2 L14 Go.Deep Go.Shelf
set_option linter.unusedVariables false
set_option maxRecDepth 20000
set_option linter.unusedSimpArgs false

theorem room_row {u w1 : World} {g n : Nat} {V : Nat → Value} {AG : Nat → Int} {b : Obj} {row : Option Nat} (h : RowK u g n V AG) (hg : (u.alloc b).grownBy w1 row) (ne : row ≠ some g) : RowK w1 g n V AG :=
  h.of ((hg.block g (by have := h.lt; simp; omega) (fun z => ne z.symm)).trans (Below.heap_alloc _ _ _ h.lt))
theorem room_res {u w1 : World} {g R p : Nat} {t : TypeId} {cs : Array Value} {b : Obj} {row : Option Nat} {v : Value} (h : Blk u R t cs) (hg : (u.alloc b).grownBy w1 row) (ne : row ≠ some R) (gr : R ≠ g) : Blk (w1.setCell ⟨g, p * 2, none⟩ v) R t cs :=
  ((h.alloc b).grown hg (fun z => ne z.symm)).other (a := ⟨g, p * 2, none⟩) gr _
set_option maxHeartbeats 3200000 in
theorem ecome_room (w : World) (Bd g n p cb : Nat) (V : Nat → Value) (AG : Nat → Int) (es : List Ent) (S room votes LS LM : Int) (rv : Value) (s : ByteArray) (pn : p < n) (nc : n ≤ cb) (el : es.length ≤ 1000) (PC : Hid (∀ u, Below w.heap.size w u → Calls Try.prog 53 #[.agg #[.int .u64 S, .int .i64 room, .int .i64 votes, .slice (some ⟨g, 0, none⟩) n cb, .int .u64 LS, .int .i64 LM, rv], .string s] u fun e w' => e = .returned (.int .i64 (p : Int)) ∧ Below u.heap.size u w')) (h : RowK w g n V AG) (own : w.ownsRow Bd 76 3 (V p) es.length (eCells es)) (ne : (V p).ownBlock ≠ some g) (bg : Bd ≤ g) (bl : Bd ≤ w.heap.size) (ha : atE es s = none) (hr : (es.length : Int) < room) :
    Calls Try.prog 29 #[.agg #[.int .u64 S, .int .i64 room, .int .i64 votes, .slice (some ⟨g, 0, none⟩) n cb, .int .u64 LS, .int .i64 LM, rv], .string s] w fun e w' => e = .returned (.tuple #[.agg #[.string ⟨#[]⟩, .int .i64 0], .int .i64 0]) ∧ CameP w w' Bd g n p V AG ⟨es ++ [⟨s, 1, false⟩], AG p⟩ := by
  obtain ⟨A, c, hv⟩ := own_slice own
  obtain ⟨m, hm⟩ : ∃ m, m = es.length := ⟨_, rfl⟩
  have HM := hidE hm
  rw [← hm] at hv hr
  have HVP := hidE hv
  have OWN := hidE own
  have NE := hidE ne
  have RK := hidE h
  have gl := hidE h.lt
  have EA := hidE fun u (b : Below w.heap.size w u) => efind_any u (V p) es s (owns_ents (owns_below own b)) (by omega)
  rw [hv] at EA
  rw [atI_none ha] at EA
  have ml : m ≤ 1000 := by omega
  obtain ⟨it, hi, hz0, hz1, hz2⟩ := infoEE
  have HT : Hid (Try.prog.info? 76 = some it ∧ it.zero = some (.agg #[.string ⟨#[]⟩, .int .i64 0, .bool false]) ∧ it.size = 3 ∧ it.bytes = 32) := ⟨hi, hz0, hz1, hz2⟩
  clear hi hz0 hz1 hz2 h own ne hm hv ha el
  have BX : Hid (Below w.heap.size w ((w.alloc (.cells #[.int .u64 S, .int .i64 room, .int .i64 votes, .slice (some ⟨g, 0, none⟩) n cb, .int .u64 LS, .int .i64 LM, rv] 28)).alloc (.cells #[.string ⟨#[]⟩, .int .i64 0] 68))) := (bel_alloc _ _).alloc (by simp) _
  have KX : Hid (Blk ((w.alloc (.cells #[.int .u64 S, .int .i64 room, .int .i64 votes, .slice (some ⟨g, 0, none⟩) n cb, .int .u64 LS, .int .i64 LM, rv] 28)).alloc (.cells #[.string ⟨#[]⟩, .int .i64 0] 68)) w.heap.size 28 #[.int .u64 S, .int .i64 room, .int .i64 votes, .slice (some ⟨g, 0, none⟩) n cb, .int .u64 LS, .int .i64 LM, rv]) := (Blk.new _ _ _).alloc _
  have KR : Hid (Blk ((w.alloc (.cells #[.int .u64 S, .int .i64 room, .int .i64 votes, .slice (some ⟨g, 0, none⟩) n cb, .int .u64 LS, .int .i64 LM, rv] 28)).alloc (.cells #[.string ⟨#[]⟩, .int .i64 0] 68)) (w.heap.size + 1) 68 #[.string ⟨#[]⟩, .int .i64 0]) := by
    have e := Blk.new (w.alloc (.cells #[.int .u64 S, .int .i64 room, .int .i64 votes, .slice (some ⟨g, 0, none⟩) n cb, .int .u64 LS, .int .i64 LM, rv] 28)) 68 #[.string ⟨#[]⟩, .int .i64 0]
    simp only [World.size_alloc] at e
    exact e
  have pb : (p : Int) < (n : Int) := by omega
  have p0 : (0 : Int) ≤ (p : Int) := by omega
  go_enter Try.func29, Try.ntmps29
  go_wp2_with fail
  generalize ((w.alloc (.cells #[.int .u64 S, .int .i64 room, .int .i64 votes, .slice (some ⟨g, 0, none⟩) n cb, .int .u64 LS, .int .i64 LM, rv] 28)).alloc (.cells #[.string ⟨#[]⟩, .int .i64 0] 68)) = X at BX KX KR ⊢
  refine letterQ ?_
  intro QQ hQQ
  have Z0 : Hid (Below X.heap.size X X.drew) := (Below.refl _ _).drew
  refine wp_region_noPanic ?_
  refine wp_region_held_drew (S := fun w2 => Below X.heap.size X w2) (by kernel_rfl) Z0.out (fun hHeld => ?_)
  clear hHeld
  generalize X.drew = q0 at Z0 ⊢
  refine wpAnyH_take (i := 0) (v := ?_) rfl (by kernel_rfl) (by kernel_rfl) (by kernel_rfl) (fun _ _ _ h => h) (Or.inl ⟨by rfl, ?_⟩) Z0.out ?_
  rotate_left
  · intro wq hSw; go_simp; first | done | with_reducible rfl
  simp only [List.getElem_toArray, List.getElem_cons_zero, Act.put, List.setIfInBounds_toArray, List.set_cons_zero, List.set_cons_succ]
  refine wpAnyH_take (i := 1) (v := ?_) rfl (by kernel_rfl) (by kernel_rfl) (by kernel_rfl) (fun _ _ _ h => h) (Or.inl ⟨by rfl, ?_⟩) Z0.out ?_
  rotate_left
  · intro wq hSw; have cl0 := (KX.out.since hSw).cell 3; go_simp; first | done | with_reducible rfl
  simp only [List.getElem_toArray, List.getElem_cons_zero, List.getElem_cons_succ, Act.put, List.setIfInBounds_toArray, List.set_cons_zero, List.set_cons_succ]
  refine wpAnyH_take (i := 2) (v := ?_) rfl (by kernel_rfl) (by kernel_rfl) (by kernel_rfl) (fun _ _ _ h => h) (Or.inl ⟨by rfl, ?_⟩) Z0.out ?_
  rotate_left
  · intro wq hSw; have cl0 := (KX.out.since hSw).cell 0; have cl1 := (KX.out.since hSw).cell 1; have cl2 := (KX.out.since hSw).cell 2; have cl3 := (KX.out.since hSw).cell 3; have cl4 := (KX.out.since hSw).cell 4; have cl5 := (KX.out.since hSw).cell 5; have cl6 := (KX.out.since hSw).cell 6; go_simp; first | done | with_reducible rfl
  simp only [List.getElem_toArray, List.getElem_cons_zero, List.getElem_cons_succ, Act.put, List.setIfInBounds_toArray, List.set_cons_zero, List.set_cons_succ]
  refine wpAnyH_take (i := 3) (v := ?_) rfl (by kernel_rfl) (by kernel_rfl) (by kernel_rfl) (fun _ _ _ h => h) (Or.inl ⟨by rfl, ?_⟩) Z0.out ?_
  rotate_left
  · intro wq hSw; go_simp; first | done | with_reducible rfl
  simp only [List.getElem_toArray, List.getElem_cons_zero, List.getElem_cons_succ, Act.put, List.setIfInBounds_toArray, List.set_cons_zero, List.set_cons_succ]
  refine wpAnyH_ready (rs := [4]) (by kernel_rfl) (by simp) ?_
  refine AllReadyH.cons rfl (fun K0 hK0 => ?_) ?_
  rotate_left
  · exact AllReadyH.nil
  refine step_func 53 #[.agg #[.int .u64 S, .int .i64 room, .int .i64 votes, .slice (some ⟨g, 0, none⟩) n cb, .int .u64 LS, .int .i64 LM, rv], .string s] (by rfl) rfl (by simp [Act.eval]) (fun _ _ => by kernel_rfl) ?_
  refine (PC.out _ (bel_trans BX.out Z0.out)).mono ?_
  rintro e uw ⟨rfl, b1⟩
  have Z1 : Hid (Below X.heap.size X uw) := bel_trans Z0.out b1
  clear b1
  refine ⟨_, rfl, ?_⟩
  refine hK0.out _ _ (by exact Z1.out) (fun hHeld => ?_)
  clear hK0 K0 hHeld
  simp only [Act.put, List.setIfInBounds_toArray]
  refine wpAnyH_take (i := 5) (v := ?_) rfl (by kernel_rfl) (by kernel_rfl) (by kernel_rfl) (fun _ _ _ h => h) (Or.inl ⟨by rfl, ?_⟩) Z1.out ?_
  rotate_left
  · intro wq hSw; go_simp; first | done | with_reducible rfl
  simp only [List.getElem_toArray, List.getElem_cons_zero, List.getElem_cons_succ, Act.put, List.setIfInBounds_toArray, List.set_cons_zero, List.set_cons_succ]
  refine wpAnyH_take (i := 6) (v := ?_) rfl (by kernel_rfl) (by kernel_rfl) (by kernel_rfl) (fun _ _ _ h => h) (Or.inl ⟨by rfl, ?_⟩) Z1.out ?_
  rotate_left
  · intro wq hSw; go_simp; first | done | with_reducible rfl
  simp only [List.getElem_toArray, List.getElem_cons_zero, List.getElem_cons_succ, Act.put, List.setIfInBounds_toArray, List.set_cons_zero, List.set_cons_succ]
  refine wpAnyH_done (by kernel_rfl) ?_ _
  refine NoPanic.normal ?_
  refine hQQ.out _ _ ?_
  clear hQQ
  have y0 : uw.cell? ⟨g, p * 2, none⟩ = some (.slice A m c) := by rw [← HVP.out]; exact (RK.out.since (bel_trans BX.out Z1.out)).ents pn
  go_wp2_with fail
  refine (EA.out _ (bel_trans BX.out Z1.out)).mono ?_
  rintro e u2 ⟨rfl, b2⟩
  have B2 := hidE (bel_trans (bel_trans BX.out Z1.out) b2)
  have K2 := hidE ((KX.out.since Z1.out).since b2)
  have R2 := hidE ((KR.out.since Z1.out).since b2)
  clear b2 BX KX KR EA PC Z1 Z0 y0
  have y0 : u2.cell? ⟨g, p * 2, none⟩ = some (.slice A m c) := by rw [← HVP.out]; exact (RK.out.since B2.out).ents pn
  have x1 : u2.cell? ⟨w.heap.size, 1, none⟩ = some (.int .i64 room) := K2.out.cell 1
  go_wp2_with fail
  go_quiet (fail)
  have RK3 : Hid (RowK (u2.drewN nq) g n V AG) := (RK.out.since B2.out).of rfl
  have OW3 : Hid ((u2.drewN nq).ownsRow Bd 76 3 (.slice A m c) m (eCells es)) := by
    have := owns_below OWN.out B2.out
    rw [HVP.out, ← HM.out] at this
    exact owns_at this fun _ _ => rfl
  have R3 : Hid (Blk (u2.drewN nq) (w.heap.size + 1) 68 #[.string ⟨#[]⟩, .int .i64 0]) := R2.out
  have B3 : Hid (Below w.heap.size w (u2.drewN nq)) := below_drewN B2.out nq
  clear R2 K2 B2 y0 x1
  generalize u2.drewN nq = u3 at RK3 OW3 R3 B3 ⊢
  have y0 : u3.cell? ⟨g, p * 2, none⟩ = some (.slice A m c) := by rw [← HVP.out]; exact RK3.out.ents pn
  have z3 : Hid (Bd ≤ u3.heap.size ∧ g < u3.heap.size ∧ w.heap.size + 1 < u3.heap.size) := ⟨by have := B3.out.size; omega, RK3.out.lt, R3.out.lt⟩
  have NE3 : Hid ((Value.slice A m c).ownBlock ≠ some g) := by rw [← HVP.out]; exact NE.out
  have NR : Hid ((Value.slice A m c).ownBlock ≠ some (w.heap.size + 1)) := by
    rw [← HVP.out]
    intro q
    have := (OWN.out.lt _ q).2
    omega
  have GR : Hid (w.heap.size + 1 ≠ g) := by have := gl.out; show w.heap.size + 1 ≠ g; omega
  go_wp2_with (at_builtin; refine wpList_append_lies _ rfl _ _ _ rfl Bd 76 it (.agg #[.string ⟨#[]⟩, .int .i64 0, .bool false]) 3 32 Try.underlying54 HT.out.1 HT.out.2.1 HT.out.2.2.1 HT.out.2.2.2 rfl (by omega) (.slice A m c) m (eCells es) (by rfl) (OW3.out.alloc _) ⟨u3.heap.size, 0, none⟩ 1 1 [.string s, .int .i64 1, .bool false] (by rfl) rfl (new_ent u3 76 _ _ _) (ent_cell _ _ _) (by omega) (by unfold maxLen; omega) (by omega) (by have := z3.out.1; simp; omega) _ rfl ?_; intro gq cap1 w1 hown1 hgrow hat hlt1; have RK4 := hidE (room_row RK3.out hgrow NE3.out); have y1 := (room_row RK3.out hgrow NE3.out).ents pn; have f1 := (room_row RK3.out hgrow NE3.out).frozen (p * 2); have hr5 := room_res (p := p) (v := .slice (some ⟨gq, 0, none⟩) (m + 1) cap1) R3.out hgrow NR.out GR.out; have r0 := hr5.cell 0; have r1 := hr5.cell 1; have z0 := hr5.frozen 0; have z1 := hr5.frozen 1)
  have NG : Hid (gq ≠ g) := fun z => by
    rcases hat with q | q
    · exact NE3.out (by rw [q, z])
    · have := z3.out.2.1
      simp at q
      omega
  have OW4 : Hid (w1.ownsRow Bd 76 3 (.slice (some ⟨gq, 0, none⟩) (m + 1) cap1) (m + 1) (eCells es ++ [.string s, .int .i64 1, .bool false])) := hown1
  have R4 : Hid (Blk w1 (w.heap.size + 1) 68 #[.string ⟨#[]⟩, .int .i64 0]) := (R3.out.alloc _).grown hgrow (fun z => NR.out z.symm)
  have S4 : Hid (Same (fun q => q ≠ g ∧ some q ≠ (V p).ownBlock) w w1) := by
    rw [HVP.out]
    refine (Same.below B3.out).trans ⟨?_, fun q d hq => ?_⟩
    · have := hgrow.size
      simp at this
      omega
    · exact (hgrow.block q (by simp; omega) (fun z => d.2 z)).trans (Below.heap_alloc _ _ _ hq)
  have B4 : Hid (Below Bd w w1) := ((B3.out.mono bl).alloc z3.out.1 _).grown hgrow (by have := z3.out.1; simp; omega) (fun q hq => (OW3.out.lt q hq).1)
  clear hown1 hgrow hat hlt1 R3 B3 OW3 RK3 z3 y0
  have R5 : Hid (Blk (w1.setCell ⟨g, p * 2, none⟩ (.slice (some ⟨gq, 0, none⟩) (m + 1) cap1)) (w.heap.size + 1) 68 #[.string ⟨#[]⟩, .int .i64 0]) := R4.out.other (a := ⟨g, p * 2, none⟩) (by show w.heap.size + 1 ≠ g; have := gl.out; omega) _
  have C5 : Hid (CameP w (eput2 (w1.setCell ⟨g, p * 2, none⟩ (.slice (some ⟨gq, 0, none⟩) (m + 1) cap1)) (w.heap.size + 1) (.string ⟨#[]⟩) (.int .i64 0)) Bd g n p V AG ⟨es ++ [⟨s, 1, false⟩], AG p⟩) := by
    have gb := OW4.out.lt gq rfl
    have far : ∀ q, q ≠ w.heap.size + 1 → (eput2 (w1.setCell ⟨g, p * 2, none⟩ (.slice (some ⟨gq, 0, none⟩) (m + 1) cap1)) (w.heap.size + 1) (.string ⟨#[]⟩) (.int .i64 0)).heap[q]? = (w1.setCell ⟨g, p * 2, none⟩ (.slice (some ⟨gq, 0, none⟩) (m + 1) cap1)).heap[q]? := fun q hq => eput2_heap _ _ _ _ q hq
    have gr : gq ≠ w.heap.size + 1 := fun z => by
      have h1 : w1.heap[gq]? = some (.cells #[.string ⟨#[]⟩, .int .i64 0] 68 (0, 0)) := by rw [z]; exact R4.out
      rcases OW4.out.2 with ⟨q, _⟩ | ⟨g2, c2, cur, hv, _, hg, _⟩
      · cases q
      · cases hv
        rw [hg] at h1
        cases h1
    refine ⟨fun j => if j = p then .slice (some ⟨gq, 0, none⟩) (m + 1) cap1 else V j, AG, gq, (RK4.out.setE p _).of (far g (by have := gl.out; omega)), rfl, fun i hi => ⟨if_neg hi, rfl⟩, gb.1, ?_, ?_, ?_⟩
    · simp only [if_pos]
      have e1 : (es ++ [(⟨s, 1, false⟩ : Ent)]).length = m + 1 := by rw [List.length_append, HM.out]; rfl
      have e2 : eCells (es ++ [⟨s, 1, false⟩]) = eCells es ++ [.string s, .int .i64 1, .bool false] := eCells_append es _
      have ow : (eput2 (w1.setCell ⟨g, p * 2, none⟩ (.slice (some ⟨gq, 0, none⟩) (m + 1) cap1)) (w.heap.size + 1) (.string ⟨#[]⟩) (.int .i64 0)).ownsRow Bd 76 3 (.slice (some ⟨gq, 0, none⟩) (m + 1) cap1) (es ++ [(⟨s, 1, false⟩ : Ent)]).length (eCells (es ++ [⟨s, 1, false⟩])) := by
        rw [e1, e2]
        exact owns_at OW4.out fun q hq => by
          cases hq
          exact (far gq gr).trans (Below.heap_setCell _ _ _ _ NG.out)
      exact ents_held ow fun q hq => by cases hq; rfl
    · refine ⟨by have := S4.out.1; rw [e2size, size_setCell]; exact this, fun q d hq => ?_⟩
      exact (far q (by omega)).trans ((Below.heap_setCell _ _ _ _ d.1).trans (S4.out.2 q d hq))
    · exact eput2_below (B4.out.setCell (p := ⟨g, p * 2, none⟩) bg _) (by omega) _ _
  clear R4 S4 B4 OW4 RK4
  refine bodyPost_ret (v := .tuple #[.agg #[.string ⟨#[]⟩, .int .i64 0], .int .i64 0]) ?_ rfl ?_
  rotate_left
  · exact ⟨rfl, C5.out⟩
  have c3 := eput2_blk (t := 68) R5.out (.string ⟨#[]⟩) (.int .i64 0)
  have c30 := c3.cell 0
  have c31 := c3.cell 1
  change (results _ _).run _ (eput2 (w1.setCell ⟨g, p * 2, none⟩ (.slice (some ⟨gq, 0, none⟩) (m + 1) cap1)) (w.heap.size + 1) (.string ⟨#[]⟩) (.int .i64 0)) = .ok _ (eput2 (w1.setCell ⟨g, p * 2, none⟩ (.slice (some ⟨gq, 0, none⟩) (m + 1) cap1)) (w.heap.size + 1) (.string ⟨#[]⟩) (.int .i64 0))
  generalize eput2 (w1.setCell ⟨g, p * 2, none⟩ (.slice (some ⟨gq, 0, none⟩) (m + 1) cap1)) (w.heap.size + 1) (.string ⟨#[]⟩) (.int .i64 0) = W5 at c30 c31
  simp [results, Try.results29, go_sem, c30, c31]
end Go.Proofs.Ytihealembikkiaa
