
/-
  New of layer 15 (elastic): what the code answers.
  Add of layer 15 (elastic): what the code answers.
-/
import Derived.Test.YtihealembikkiaaElM2
import Derived.Test.YtihealembikkiaaLstAdd
import Derived.Test.YtihealembikkiaaElM3
namespace Go.Proofs.Ytihealembikkiaa
open Go.RowKit Fm Bl Lt El L2 L10 L14 Go.Deep Go.Shelf
set_option linter.unusedVariables false
set_option maxRecDepth 20000
set_option linter.unusedSimpArgs false

theorem make_two {P : Program} (t e : TypeId) (z : Value) (bytes : Nat) (ht : P.underlying t = some (.slice e)) (hinfo : (P.info? e).map (fun i => (i.zero, i.size, i.bytes)) = some (some z, 2, bytes))
    (n : Nat) (hbytes : bytes * n ≤ 281474976710656) (h63 : n < 4611686018427387904) (w : World) :
    (Instr.makeSlice t (.int .i64 (n : Int)) (.int .i64 (n : Int))).run P w = .ok (.slice (some ⟨w.heap.size, 0, none⟩) n n) (w.alloc (.cells (madeCells z.cells (n * 2)) e)) := by
  obtain ⟨i, hi, hzz⟩ := Option.map_eq_some_iff.1 hinfo
  simp only [Prod.mk.injEq] at hzz
  obtain ⟨hz, hs, hb⟩ := hzz
  have hb' : (i.bytes : Int) * (n : Int) ≤ 281474976710656 := by
    have h : ((i.bytes * n : Nat) : Int) ≤ 281474976710656 := by rw [hb]; omega
    rwa [Int.natCast_mul] at h
  have hr := run_make (P := P) w t e i z ht hi hz .i64 .i64 n n (by omega) (by omega) hb' (by omega)
  simp only [Int.toNat_natCast, hs] at hr
  exact hr
/-- What the last region of New keeps. -/
def SN (w Y w2 : World) : Prop := Same (fun q => q ≠ w.heap.size) Y w2 ∧ Below w.heap.size w w2
theorem row_made0 (w : World) (n : Nat) : RowK (w.alloc (.cells (madeCells #[.slice none 0 0, .int .i64 0] (n * 2)) 56)) w.heap.size n (fun _ => .slice none 0 0) (fun _ => 0) := by
  refine ⟨_, Blk.new _ _ _, fun j hj => ?_⟩
  unfold cellB
  by_cases m : j % 2 = 0
  · rw [if_pos m]
    simp [madeCells, hj, m]
  · rw [if_neg m]
    have : j % 2 = 1 := by omega
    simp [madeCells, hj, this]
set_option maxHeartbeats 3200000 in
theorem enew_bad (w : World) (S n room votes R c : Int) (uS : U S) (h : shapeE n room votes R c = false) : Calls Try.prog 21 #[.int .u64 S, .int .i64 n, .int .i64 room, .int .i64 votes, .int .i64 R, .int .i64 c] w fun e w' => e = .returned (.tuple #[elz, .int .i64 1]) ∧ Below w.heap.size w w' := by
  have BX : Hid (Below w.heap.size w (w.alloc (.cells #[.int .u64 0, .int .i64 0, .int .i64 0, .slice none 0 0, .int .u64 0, .int .i64 0, .slice none 0 0] 28))) := bel_alloc _ _
  have KX : Hid (Blk (w.alloc (.cells #[.int .u64 0, .int .i64 0, .int .i64 0, .slice none 0 0, .int .u64 0, .int .i64 0, .slice none 0 0] 28)) w.heap.size 28 #[.int .u64 0, .int .i64 0, .int .i64 0, .slice none 0 0, .int .u64 0, .int .i64 0, .slice none 0 0]) := Blk.new _ _ _
  have RO := row_any S 1
  go_enter Try.func21, Try.ntmps21
  go_wp2_with fail
  generalize w.alloc (.cells #[.int .u64 0, .int .i64 0, .int .i64 0, .slice none 0 0, .int .u64 0, .int .i64 0, .slice none 0 0] 28) = X at BX KX ⊢
  refine (RO X uS (by omega)).mono ?_
  rintro e X ⟨rfl, rfl⟩
  clear RO
  go_wp2_with fail
  by_cases hf : fitsL R c 255 = true
  · have hr := (fitsL_iff R c 255).1 hf
    obtain ⟨R', rfl⟩ : ∃ k : Nat, R = k := ⟨R.toNat, by omega⟩
    obtain ⟨c', rfl⟩ : ∃ k : Nat, c = k := ⟨c.toNat, by omega⟩
    have hb : fitsE n room votes = false := by
      cases e : fitsE n room votes with
      | false => rfl
      | true =>
        have := (fitsE_iff n room votes).1 e
        have := (shapeE_iff n room votes R' c').2 (by omega)
        rw [h] at this
        cases this
    refine (new_ok (rowF S 1) 255 R' c' X hf).mono ?_
    rintro e u1 ⟨x, rfl, hx, b1⟩
    obtain ⟨rv, rfl, hrv⟩ := hx.at
    obtain ⟨LA, lcap, _, _, rfl, _⟩ := hrv.read
    clear hrv
    have B1 := hidE (bel_trans BX.out b1)
    have K1 := hidE (KX.out.since b1)
    clear b1 BX KX hf h hx hr
    have B2 : Hid (Below w.heap.size w (u1.alloc (.cells #[.int .u64 (rowF S 1), .int .i64 255, .slice LA R' lcap] 26))) := bel_trans B1.out (bel_alloc _ _)
    have K2 : Hid (Blk (u1.alloc (.cells #[.int .u64 (rowF S 1), .int .i64 255, .slice LA R' lcap] 26)) w.heap.size 28 #[.int .u64 0, .int .i64 0, .int .i64 0, .slice none 0 0, .int .u64 0, .int .i64 0, .slice none 0 0]) := K1.out.alloc _
    go_wp2_with fail
    generalize (u1.alloc (.cells #[.int .u64 (rowF S 1), .int .i64 255, .slice LA R' lcap] 26)) = Y at B2 K2 ⊢
    refine (efits_any n room votes Y).mono ?_
    rintro e Y ⟨rfl, rfl⟩
    rw [hb]
    have r0 : Y.cell? ⟨w.heap.size, 0, none⟩ = some (.int .u64 0) := K2.out.cell 0
    have r1 : Y.cell? ⟨w.heap.size, 1, none⟩ = some (.int .i64 0) := K2.out.cell 1
    have r2 : Y.cell? ⟨w.heap.size, 2, none⟩ = some (.int .i64 0) := K2.out.cell 2
    have r3 : Y.cell? ⟨w.heap.size, 3, none⟩ = some (.slice none 0 0) := K2.out.cell 3
    have r4 : Y.cell? ⟨w.heap.size, 4, none⟩ = some (.int .u64 0) := K2.out.cell 4
    have r5 : Y.cell? ⟨w.heap.size, 5, none⟩ = some (.int .i64 0) := K2.out.cell 5
    have r6 : Y.cell? ⟨w.heap.size, 6, none⟩ = some (.slice none 0 0) := K2.out.cell 6
    have z0 := K2.out.frozen 0
    have z1 := K2.out.frozen 1
    have z2 := K2.out.frozen 2
    have z3 := K2.out.frozen 3
    have z4 := K2.out.frozen 4
    have z5 := K2.out.frozen 5
    have z6 := K2.out.frozen 6
    go_wp2_with fail
    refine bodyPost_ret (v := .tuple #[.agg #[.int .u64 0, .int .i64 0, .int .i64 0, .slice none 0 0, .int .u64 0, .int .i64 0, .slice none 0 0], .int .i64 1]) ?_ rfl ?_
    rotate_left
    · exact ⟨rfl, eput7_below B2.out (Nat.le_refl _) _ _ _ _ _ _ _⟩
    have c3 := eput7_blk (t := 28) K2.out (.int .u64 0) (.int .i64 0) (.int .i64 0) (.slice none 0 0) (.int .u64 0) (.int .i64 0) (.slice none 0 0)
    have c30 := c3.cell 0
    have c31 := c3.cell 1
    have c32 := c3.cell 2
    have c33 := c3.cell 3
    have c34 := c3.cell 4
    have c35 := c3.cell 5
    have c36 := c3.cell 6
    change (results _ _).run _ (eput7 Y w.heap.size (.int .u64 0) (.int .i64 0) (.int .i64 0) (.slice none 0 0) (.int .u64 0) (.int .i64 0) (.slice none 0 0)) = .ok _ (eput7 Y w.heap.size (.int .u64 0) (.int .i64 0) (.int .i64 0) (.slice none 0 0) (.int .u64 0) (.int .i64 0) (.slice none 0 0))
    generalize eput7 Y w.heap.size (.int .u64 0) (.int .i64 0) (.int .i64 0) (.slice none 0 0) (.int .u64 0) (.int .i64 0) (.slice none 0 0) = W5 at c30 c31 c32 c33 c34 c35 c36
    simp [results, Try.results21, go_sem, c30, c31, c32, c33, c34, c35, c36]
  · have hf : fitsL R c 255 = false := by simpa using hf
    refine (new_bad (rowF S 1) R c 255 X hf).mono ?_
    rintro e u1 ⟨rfl, b1⟩
    have B1 := hidE (bel_trans BX.out b1)
    have K1 := hidE (KX.out.since b1)
    clear b1 BX KX hf h
    have B2 : Hid (Below w.heap.size w (u1.alloc (.cells #[.int .u64 0, .int .i64 0, .slice none 0 0] 26))) := bel_trans B1.out (bel_alloc _ _)
    have K2 : Hid (Blk (u1.alloc (.cells #[.int .u64 0, .int .i64 0, .slice none 0 0] 26)) w.heap.size 28 #[.int .u64 0, .int .i64 0, .int .i64 0, .slice none 0 0, .int .u64 0, .int .i64 0, .slice none 0 0]) := K1.out.alloc _
    have r0 : (u1.alloc (.cells #[.int .u64 0, .int .i64 0, .slice none 0 0] 26)).cell? ⟨w.heap.size, 0, none⟩ = some (.int .u64 0) := K2.out.cell 0
    have r1 : (u1.alloc (.cells #[.int .u64 0, .int .i64 0, .slice none 0 0] 26)).cell? ⟨w.heap.size, 1, none⟩ = some (.int .i64 0) := K2.out.cell 1
    have r2 : (u1.alloc (.cells #[.int .u64 0, .int .i64 0, .slice none 0 0] 26)).cell? ⟨w.heap.size, 2, none⟩ = some (.int .i64 0) := K2.out.cell 2
    have r3 : (u1.alloc (.cells #[.int .u64 0, .int .i64 0, .slice none 0 0] 26)).cell? ⟨w.heap.size, 3, none⟩ = some (.slice none 0 0) := K2.out.cell 3
    have r4 : (u1.alloc (.cells #[.int .u64 0, .int .i64 0, .slice none 0 0] 26)).cell? ⟨w.heap.size, 4, none⟩ = some (.int .u64 0) := K2.out.cell 4
    have r5 : (u1.alloc (.cells #[.int .u64 0, .int .i64 0, .slice none 0 0] 26)).cell? ⟨w.heap.size, 5, none⟩ = some (.int .i64 0) := K2.out.cell 5
    have r6 : (u1.alloc (.cells #[.int .u64 0, .int .i64 0, .slice none 0 0] 26)).cell? ⟨w.heap.size, 6, none⟩ = some (.slice none 0 0) := K2.out.cell 6
    have z0 := K2.out.frozen 0
    have z1 := K2.out.frozen 1
    have z2 := K2.out.frozen 2
    have z3 := K2.out.frozen 3
    have z4 := K2.out.frozen 4
    have z5 := K2.out.frozen 5
    have z6 := K2.out.frozen 6
    go_wp2_with fail
    refine bodyPost_ret (v := .tuple #[.agg #[.int .u64 0, .int .i64 0, .int .i64 0, .slice none 0 0, .int .u64 0, .int .i64 0, .slice none 0 0], .int .i64 1]) ?_ rfl ?_
    rotate_left
    · exact ⟨rfl, eput7_below B2.out (Nat.le_refl _) _ _ _ _ _ _ _⟩
    have c3 := eput7_blk (t := 28) K2.out (.int .u64 0) (.int .i64 0) (.int .i64 0) (.slice none 0 0) (.int .u64 0) (.int .i64 0) (.slice none 0 0)
    have c30 := c3.cell 0
    have c31 := c3.cell 1
    have c32 := c3.cell 2
    have c33 := c3.cell 3
    have c34 := c3.cell 4
    have c35 := c3.cell 5
    have c36 := c3.cell 6
    change (results _ _).run _ (eput7 (u1.alloc (.cells #[.int .u64 0, .int .i64 0, .slice none 0 0] 26)) w.heap.size (.int .u64 0) (.int .i64 0) (.int .i64 0) (.slice none 0 0) (.int .u64 0) (.int .i64 0) (.slice none 0 0)) = .ok _ (eput7 (u1.alloc (.cells #[.int .u64 0, .int .i64 0, .slice none 0 0] 26)) w.heap.size (.int .u64 0) (.int .i64 0) (.int .i64 0) (.slice none 0 0) (.int .u64 0) (.int .i64 0) (.slice none 0 0))
    generalize eput7 (u1.alloc (.cells #[.int .u64 0, .int .i64 0, .slice none 0 0] 26)) w.heap.size (.int .u64 0) (.int .i64 0) (.int .i64 0) (.slice none 0 0) (.int .u64 0) (.int .i64 0) (.slice none 0 0) = W5 at c30 c31 c32 c33 c34 c35 c36
    simp [results, Try.results21, go_sem, c30, c31, c32, c33, c34, c35, c36]
set_option maxHeartbeats 3200000 in
theorem enew_ok (w : World) (S : Int) (n room R c : Nat) (votes : Int) (uS : U S) (h : shapeE n room votes R c = true) : Calls Try.prog 21 #[.int .u64 S, .int .i64 (n : Int), .int .i64 (room : Int), .int .i64 votes, .int .i64 (R : Int), .int .i64 (c : Int)] w fun e w' => ∃ x, e = .returned (.tuple #[x, .int .i64 0]) ∧ Held (fun q => w.heap.size ≤ q) (fun u => ElAt u x (elF S room votes (List.replicate n ⟨[], 0⟩) R c (fun _ _ => 0))) w' ∧ Below w.heap.size w w' := by
  have BX : Hid (Below w.heap.size w (w.alloc (.cells #[.int .u64 0, .int .i64 0, .int .i64 0, .slice none 0 0, .int .u64 0, .int .i64 0, .slice none 0 0] 28))) := bel_alloc _ _
  have KX : Hid (Blk (w.alloc (.cells #[.int .u64 0, .int .i64 0, .int .i64 0, .slice none 0 0, .int .u64 0, .int .i64 0, .slice none 0 0] 28)) w.heap.size 28 #[.int .u64 0, .int .i64 0, .int .i64 0, .slice none 0 0, .int .u64 0, .int .i64 0, .slice none 0 0]) := Blk.new _ _ _
  have RO := row_any S 1
  have SH := (shapeE_iff _ _ _ _ _).1 h
  have hf : fitsL R c 255 = true := (fitsL_iff _ _ _).2 (by omega)
  have hb : fitsE n room votes = true := (fitsE_iff _ _ _).2 (by omega)
  have n256 : n ≤ 256 := by omega
  go_enter Try.func21, Try.ntmps21
  go_wp2_with fail
  generalize w.alloc (.cells #[.int .u64 0, .int .i64 0, .int .i64 0, .slice none 0 0, .int .u64 0, .int .i64 0, .slice none 0 0] 28) = X at BX KX ⊢
  refine (RO X uS (by omega)).mono ?_
  rintro e X ⟨rfl, rfl⟩
  clear RO
  go_wp2_with fail
  refine (new_ok (rowF S 1) 255 R c X hf).mono ?_
  rintro e u1 ⟨x, rfl, hx, b1⟩
  obtain ⟨rv, rfl, hrv⟩ := hx.at
  obtain ⟨LA, lcap, _, _, rfl, _⟩ := hrv.read
  clear hrv
  have HX : Hid (Held (fun q => X.heap.size ≤ q) (fun u => RowsI u (.slice LA R lcap) R (fun _ => c) (fun _ _ => 0)) u1) := fun u e => by
    obtain ⟨v, e1, e2⟩ := hx u e
    simp at e1
    rw [e1]; exact e2
  have B1 := hidE (bel_trans BX.out b1)
  have K1 := hidE (KX.out.since b1)
  have X1 : Hid (w.heap.size < X.heap.size) := KX.out.lt
  have NG : Hid (u1.heap.size ≠ w.heap.size) := by have := K1.out.lt; show u1.heap.size ≠ w.heap.size; omega
  clear BX KX hf h hx SH
  have B2 : Hid (Below w.heap.size w (u1.alloc (.cells #[.int .u64 (rowF S 1), .int .i64 255, .slice LA R lcap] 26))) := bel_trans B1.out (bel_alloc _ _)
  have K2 : Hid (Blk (u1.alloc (.cells #[.int .u64 (rowF S 1), .int .i64 255, .slice LA R lcap] 26)) w.heap.size 28 #[.int .u64 0, .int .i64 0, .int .i64 0, .slice none 0 0, .int .u64 0, .int .i64 0, .slice none 0 0]) := K1.out.alloc _
  have L2 : Hid (Blk (u1.alloc (.cells #[.int .u64 (rowF S 1), .int .i64 255, .slice LA R lcap] 26)) u1.heap.size 26 #[.int .u64 (rowF S 1), .int .i64 255, .slice LA R lcap]) := Blk.new _ _ _
  have HY : Hid (Held (fun q => X.heap.size ≤ q) (fun u => RowsI u (.slice LA R lcap) R (fun _ => c) (fun _ _ => 0)) (u1.alloc (.cells #[.int .u64 (rowF S 1), .int .i64 255, .slice LA R lcap] 26))) := HX.out.since (bel_alloc _ _)
  have Y1 : Hid (X.heap.size ≤ (u1.alloc (.cells #[.int .u64 (rowF S 1), .int .i64 255, .slice LA R lcap] 26)).heap.size) := by have := b1.size; show X.heap.size ≤ _; simp; omega
  have NG2 : Hid (w.heap.size < (u1.alloc (.cells #[.int .u64 (rowF S 1), .int .i64 255, .slice LA R lcap] 26)).heap.size) := K2.out.lt
  clear b1
  go_wp2_with fail
  generalize (u1.alloc (.cells #[.int .u64 (rowF S 1), .int .i64 255, .slice LA R lcap] 26)) = Y at B2 K2 L2 HY Y1 NG2 ⊢
  generalize u1.heap.size = gl at L2 NG ⊢
  refine (efits_any (n : Int) (room : Int) votes Y).mono ?_
  rintro e Y ⟨rfl, rfl⟩
  rw [hb]
  clear hb B1 K1 HX
  go_wp2_with fail
  refine letterQ ?_
  intro QQ hQQ
  have Z0 : Hid (SN w Y Y.drew) := ⟨⟨Nat.le_refl _, fun _ _ _ => rfl⟩, B2.out.drew⟩
  refine wp_region_noPanic ?_
  refine wp_region_held_drew (S := fun w2 => SN w Y w2) (by kernel_rfl) Z0.out (fun hHeld => ?_)
  clear hHeld
  have KQ : Hid (∀ u, u = Y.drew → Blk u w.heap.size 28 #[.int .u64 0, .int .i64 0, .int .i64 0, .slice none 0 0, .int .u64 0, .int .i64 0, .slice none 0 0]) := fun u e => by rw [e]; exact K2.out
  generalize Y.drew = q0 at Z0 KQ ⊢
  refine wpAnyH_take (i := 0) (v := ?_) rfl (by kernel_rfl) (by kernel_rfl) (by kernel_rfl) (fun _ _ _ h => h) (Or.inl ⟨by rfl, ?_⟩) Z0.out ?_
  rotate_left
  · intro wq hSw; go_simp; first | done | with_reducible rfl
  simp only [List.getElem_toArray, List.getElem_cons_zero, Act.put, List.setIfInBounds_toArray, List.set_cons_zero, List.set_cons_succ]
  refine wpAnyH_take (i := 1) (v := ?_) rfl (by kernel_rfl) (by kernel_rfl) (by kernel_rfl) (fun _ _ _ h => h) (Or.inl ⟨by rfl, ?_⟩) Z0.out ?_
  rotate_left
  · intro wq hSw; go_simp; first | done | with_reducible rfl
  simp only [List.getElem_toArray, List.getElem_cons_zero, List.getElem_cons_succ, Act.put, List.setIfInBounds_toArray, List.set_cons_zero, List.set_cons_succ]
  refine wpAnyH_take (i := 2) (v := ?_) rfl (by kernel_rfl) (by kernel_rfl) (by kernel_rfl) (fun _ _ _ h => h) (Or.inl ⟨by rfl, ?_⟩) Z0.out ?_
  rotate_left
  · intro wq hSw; go_simp; first | done | with_reducible rfl
  simp only [List.getElem_toArray, List.getElem_cons_zero, List.getElem_cons_succ, Act.put, List.setIfInBounds_toArray, List.set_cons_zero, List.set_cons_succ]
  refine wpAnyH_take (i := 3) (v := ?_) rfl (by kernel_rfl) (by kernel_rfl) (by kernel_rfl) (fun _ _ _ h => h) (Or.inl ⟨by rfl, ?_⟩) Z0.out ?_
  rotate_left
  · intro wq hSw; go_simp; first | done | with_reducible rfl
  simp only [List.getElem_toArray, List.getElem_cons_zero, List.getElem_cons_succ, Act.put, List.setIfInBounds_toArray, List.set_cons_zero, List.set_cons_succ]
  refine wpAnyH_take (i := 5) (v := ?_) rfl (by kernel_rfl) (by kernel_rfl) (by kernel_rfl) (fun _ _ _ h => h) (Or.inl ⟨by rfl, ?_⟩) Z0.out ?_
  rotate_left
  · intro wq hSw; have cl0 := (L2.out.of (hSw.1.2 gl NG.out L2.out.lt)).cell 0; have cl1 := (L2.out.of (hSw.1.2 gl NG.out L2.out.lt)).cell 1; have cl2 := (L2.out.of (hSw.1.2 gl NG.out L2.out.lt)).cell 2; go_simp; first | done | with_reducible rfl
  simp only [List.getElem_toArray, List.getElem_cons_zero, List.getElem_cons_succ, Act.put, List.setIfInBounds_toArray, List.set_cons_zero, List.set_cons_succ]
  refine wpAnyH_ready (rs := [4]) (by kernel_rfl) (by simp) ?_
  refine AllReadyH.cons rfl (fun K0 hK0 => ?_) ?_
  rotate_left
  · exact AllReadyH.nil
  have hm := make_two (P := Try.prog) 23 56 (.agg #[.slice none 0 0, .int .i64 0]) 32 Try.underlying23 (by kernel_rfl) n (by omega) (by omega) q0
  go_simp
  have Z1 : Hid (SN w Y (q0.alloc (.cells (madeCells #[.slice none 0 0, .int .i64 0] (n * 2)) 56))) := ⟨Z0.out.1.trans (Same.below (bel_alloc _ _)), bel_trans Z0.out.2 (bel_alloc _ _)⟩
  have RK : Hid (RowK (q0.alloc (.cells (madeCells #[.slice none 0 0, .int .i64 0] (n * 2)) 56)) q0.heap.size n (fun _ => .slice none 0 0) (fun _ => 0)) := row_made0 q0 n
  have GE : Hid (Y.heap.size ≤ q0.heap.size) := Z0.out.1.1
  have K3 : Hid (Blk (q0.alloc (.cells (madeCells #[.slice none 0 0, .int .i64 0] (n * 2)) 56)) w.heap.size 28 #[.int .u64 0, .int .i64 0, .int .i64 0, .slice none 0 0, .int .u64 0, .int .i64 0, .slice none 0 0]) := (KQ.out _ rfl).alloc _
  clear hm
  generalize q0.alloc (.cells (madeCells #[.slice none 0 0, .int .i64 0] (n * 2)) 56) = q1 at Z1 RK K3 ⊢
  generalize q0.heap.size = gb at RK GE ⊢
  refine hK0.out _ _ (by exact Z1.out) (fun hHeld => ?_)
  clear hK0 K0 hHeld
  refine wpAnyH_take (i := 6) (v := ?_) rfl (by kernel_rfl) (by kernel_rfl) (by kernel_rfl) (fun _ _ _ h => h) (Or.inl ⟨by rfl, ?_⟩) Z1.out ?_
  rotate_left
  · intro wq hSw; go_simp; first | done | with_reducible rfl
  simp only [List.getElem_toArray, List.getElem_cons_zero, List.getElem_cons_succ, Act.put, List.setIfInBounds_toArray, List.set_cons_zero, List.set_cons_succ]
  refine wpAnyH_ready (rs := [7]) (by kernel_rfl) (by simp) ?_
  refine AllReadyH.cons rfl (fun K0 hK0 => ?_) ?_
  rotate_left
  · exact AllReadyH.nil
  have r0 : q1.cell? ⟨w.heap.size, 0, none⟩ = some (.int .u64 0) := K3.out.cell 0
  have r1 : q1.cell? ⟨w.heap.size, 1, none⟩ = some (.int .i64 0) := K3.out.cell 1
  have r2 : q1.cell? ⟨w.heap.size, 2, none⟩ = some (.int .i64 0) := K3.out.cell 2
  have r3 : q1.cell? ⟨w.heap.size, 3, none⟩ = some (.slice none 0 0) := K3.out.cell 3
  have r4 : q1.cell? ⟨w.heap.size, 4, none⟩ = some (.int .u64 0) := K3.out.cell 4
  have r5 : q1.cell? ⟨w.heap.size, 5, none⟩ = some (.int .i64 0) := K3.out.cell 5
  have r6 : q1.cell? ⟨w.heap.size, 6, none⟩ = some (.slice none 0 0) := K3.out.cell 6
  have z0 := K3.out.frozen 0
  have z1 := K3.out.frozen 1
  have z2 := K3.out.frozen 2
  have z3 := K3.out.frozen 3
  have z4 := K3.out.frozen 4
  have z5 := K3.out.frozen 5
  have z6 := K3.out.frozen 6
  go_simp
  clear r0 r1 r2 r3 r4 r5 r6 z0 z1 z2 z3 z4 z5 z6
  have ZF : Hid (SN w Y (eput7 q1 w.heap.size (.int .u64 S) (.int .i64 (room : Int)) (.int .i64 votes) (.slice (some ⟨gb, 0, none⟩) n n) (.int .u64 (rowF S 1)) (.int .i64 255) (.slice LA R lcap))) := ⟨Z1.out.1.trans ⟨by rw [eput7_size]; exact Nat.le_refl _, fun q d hq => eput7_heap _ _ _ _ _ _ _ _ _ q d⟩, eput7_below Z1.out.2 (Nat.le_refl _) _ _ _ _ _ _ _⟩
  refine hK0.out _ _ (by exact ZF.out) (fun hHeld => ?_)
  clear hK0 K0 hHeld
  refine wpAnyH_take (i := 8) (v := ?_) rfl (by kernel_rfl) (by kernel_rfl) (by kernel_rfl) (fun _ _ _ h => h) (Or.inl ⟨by rfl, ?_⟩) (by exact ZF.out) ?_
  rotate_left
  · intro wq hSw; go_simp; first | done | with_reducible rfl
  simp only [List.getElem_toArray, List.getElem_cons_zero, List.getElem_cons_succ, Act.put, List.setIfInBounds_toArray, List.set_cons_zero, List.set_cons_succ]
  refine wpAnyH_done (by kernel_rfl) ?_ _
  refine NoPanic.normal ?_
  refine hQQ.out _ _ ?_
  clear hQQ
  go_wp2_with fail
  refine bodyPost_ret (v := .tuple #[.agg #[.int .u64 S, .int .i64 (room : Int), .int .i64 votes, .slice (some ⟨gb, 0, none⟩) n n, .int .u64 (rowF S 1), .int .i64 255, .slice LA R lcap], .int .i64 0]) ?_ rfl ?_
  rotate_left
  · refine ⟨.agg #[.int .u64 S, .int .i64 (room : Int), .int .i64 votes, .slice (some ⟨gb, 0, none⟩) n n, .int .u64 (rowF S 1), .int .i64 255, .slice LA R lcap], rfl, ?_, ZF.out.2⟩
    have N0 := NG2.out
    have g0 : gb ≠ w.heap.size := by have := GE.out; omega
    have rk : RowK (eput7 q1 w.heap.size (.int .u64 S) (.int .i64 (room : Int)) (.int .i64 votes) (.slice (some ⟨gb, 0, none⟩) n n) (.int .u64 (rowF S 1)) (.int .i64 255) (.slice LA R lcap)) gb n (fun _ => .slice none 0 0) (fun _ => 0) := RK.out.of (eput7_heap _ _ _ _ _ _ _ _ _ gb g0)
    have hl : Held (fun q => X.heap.size ≤ q) (fun u => RowsI u (.slice LA R lcap) R (fun _ => c) (fun _ _ => 0)) (eput7 q1 w.heap.size (.int .u64 S) (.int .i64 (room : Int)) (.int .i64 votes) (.slice (some ⟨gb, 0, none⟩) n n) (.int .u64 (rowF S 1)) (.int .i64 255) (.slice LA R lcap)) := HY.out.same (ZF.out.1.mono fun q _ d => by have := X1.out; show q ≠ w.heap.size; omega)
    exact fun u e => by
      have hb : BktsE u (.slice (some ⟨gb, 0, none⟩) n n) (List.replicate n ⟨[], 0⟩) := bkts_of (rk.of (e.2 gb (by have := GE.out; omega) rk.lt)) List.length_replicate.symm (Nat.le_refl _) fun i x hx => by
        rw [List.getElem?_replicate] at hx
        split at hx
        · cases hx; exact ⟨rfl, ents_none u⟩
        · cases hx
      exact ⟨_, _, rfl, hb, hl u (e.mono fun q _ d => by have := X1.out; show w.heap.size ≤ q; omega)⟩
  have c3 := eput7_blk (t := 28) K3.out (.int .u64 S) (.int .i64 (room : Int)) (.int .i64 votes) (.slice (some ⟨gb, 0, none⟩) n n) (.int .u64 (rowF S 1)) (.int .i64 255) (.slice LA R lcap)
  have c30 := c3.cell 0
  have c31 := c3.cell 1
  have c32 := c3.cell 2
  have c33 := c3.cell 3
  have c34 := c3.cell 4
  have c35 := c3.cell 5
  have c36 := c3.cell 6
  change (results _ _).run _ (eput7 q1 w.heap.size (.int .u64 S) (.int .i64 (room : Int)) (.int .i64 votes) (.slice (some ⟨gb, 0, none⟩) n n) (.int .u64 (rowF S 1)) (.int .i64 255) (.slice LA R lcap)) = .ok _ (eput7 q1 w.heap.size (.int .u64 S) (.int .i64 (room : Int)) (.int .i64 votes) (.slice (some ⟨gb, 0, none⟩) n n) (.int .u64 (rowF S 1)) (.int .i64 255) (.slice LA R lcap))
  generalize eput7 q1 w.heap.size (.int .u64 S) (.int .i64 (room : Int)) (.int .i64 votes) (.slice (some ⟨gb, 0, none⟩) n n) (.int .u64 (rowF S 1)) (.int .i64 255) (.slice LA R lcap) = W5 at c30 c31 c32 c33 c34 c35 c36
  simp [results, Try.results21, go_sem, c30, c31, c32, c33, c34, c35, c36]
end Go.Proofs.Ytihealembikkiaa
namespace Go.Proofs.Ytihealembikkiaa
open Go.RowKit Fm Bl Lt El L2 L10 L14 Go.Deep Go.Shelf
set_option linter.unusedVariables false
set_option maxRecDepth 20000
set_option linter.unusedSimpArgs false

/-- The last three of seven cells written. -/
def put456 (w : World) (g : Nat) (a b c : Value) : World := ((w.setCell ⟨g, 4, none⟩ a).setCell ⟨g, 5, none⟩ b).setCell ⟨g, 6, none⟩ c
theorem put456_blk {w : World} {g : Nat} {t : TypeId} {x0 x1 x2 x3 x4 x5 x6 : Value} (h : Blk w g t #[x0, x1, x2, x3, x4, x5, x6]) (a b c : Value) : Blk (put456 w g a b c) g t #[x0, x1, x2, x3, a, b, c] := by
  have := ((h.set 4 a).set 5 b).set 6 c
  simpa [put456] using this
theorem put456_heap (w : World) (g : Nat) (a b c : Value) (q : Nat) (h : q ≠ g) : (put456 w g a b c).heap[q]? = w.heap[q]? := (Below.heap_setCell _ _ _ _ h).trans ((Below.heap_setCell _ _ _ _ h).trans (Below.heap_setCell _ _ _ _ h))
theorem put456_below {Bd : Nat} {w wr : World} {g : Nat} (h : Below Bd w wr) (hg : Bd ≤ g) (a b c : Value) : Below Bd w (put456 wr g a b c) := ((h.setCell (p := ⟨g, 4, none⟩) hg _).setCell (p := ⟨g, 5, none⟩) hg _).setCell (p := ⟨g, 6, none⟩) hg _
theorem put456_size (w : World) (g : Nat) (a b c : Value) : (put456 w g a b c).heap.size = w.heap.size := by unfold put456; rw [size_setCell, size_setCell, size_setCell]
theorem set3_blk {w : World} {g : Nat} {t : TypeId} {x0 x1 x2 x3 x4 x5 x6 : Value} (h : Blk w g t #[x0, x1, x2, x3, x4, x5, x6]) (a : Value) : Blk (w.setCell ⟨g, 3, none⟩ a) g t #[x0, x1, x2, a, x4, x5, x6] := by
  have := h.set 3 a
  simpa using this
/-- What goes to Light: a key and how many. -/
theorem gone_of {S room votes : Int} {R c : Nat} {Z : Nat → Nat → Int} {b b' : Bkt} {o : Option (ByteArray × Int)} {s : ByteArray} (ok : OkP 255 R c Z) (rb : RightB room b) (sh : ∀ (j : Nat) (e : Ent), b.es[j]? = some e → e.k.size ≤ 100) (hs : s.size ≤ 100) (ha : El.addB room.toNat votes b s = some (b', o)) :
    ∃ gk gv, itO o = .agg #[.string gk, .int .i64 gv] ∧ gk.size ≤ 100 ∧ 0 ≤ gv ∧ gv ≤ 1099511627776 ∧ ∀ i j, i < R → j < c → addZ (rowF S 1) 255 c Z gk gv i j = lightO S c Z o i j := by
  have none_ : o = none → ∃ gk gv, itO o = .agg #[.string gk, .int .i64 gv] ∧ gk.size ≤ 100 ∧ 0 ≤ gv ∧ gv ≤ 1099511627776 ∧ ∀ i j, i < R → j < c → addZ (rowF S 1) 255 c Z gk gv i j = lightO S c Z o i j := fun e => by
    subst e
    exact ⟨⟨#[]⟩, 0, rfl, by decide, by omega, by omega, fun i j hi hj => light_none ok _ i j hi hj⟩
  have some_ : ∀ y, o = some y → y.1.size ≤ 100 → 0 ≤ y.2 → y.2 ≤ 1099511627776 → ∃ gk gv, itO o = .agg #[.string gk, .int .i64 gv] ∧ gk.size ≤ 100 ∧ 0 ≤ gv ∧ gv ≤ 1099511627776 ∧ ∀ i j, i < R → j < c → addZ (rowF S 1) 255 c Z gk gv i j = lightO S c Z o i j := fun y e h1 h2 h3 => by
    subst e
    exact ⟨y.1, y.2, rfl, h1, h2, h3, fun i j _ _ => rfl⟩
  cases ga : atE b.es s with
  | some i =>
    obtain ⟨e, he, _⟩ := atE_some ga
    rw [addB_at ga he] at ha
    split at ha <;> cases ha
    exact none_ rfl
  | none =>
    by_cases r : b.es.length < room.toNat
    · rw [addB_room ga r] at ha
      cases ha
      exact none_ rfl
    · by_cases a : b.ag + 1 > 1099511627776
      · rw [addB_full ga r a] at ha; cases ha
      · by_cases n0 : 0 < b.es.length
        · obtain ⟨e, he⟩ : ∃ e, b.es[lowAt b.es]? = some e := ⟨_, List.getElem?_eq_getElem (lowAt_lt n0)⟩
          rw [addB_low ga r a he] at ha
          have re := rb.2.2.2 _ e he
          split at ha <;> cases ha
          · exact some_ _ rfl (sh _ e he) (by show 0 ≤ e.v; omega) re.2.1
          · exact some_ _ rfl hs (by show (0 : Int) ≤ 1; omega) (by show (1 : Int) ≤ 1099511627776; omega)
        · have z : b.es[lowAt b.es]? = none := List.getElem?_eq_none (by omega)
          exact absurd ha (by unfold El.addB; rw [ga]; simp [r, a, z])
set_option maxHeartbeats 1600000 in
theorem eaddC_bad0 (w : World) (S room votes LS LM : Int) (A LA : Option Addr) (n cap R lcap : Nat) (s : ByteArray) (RC : Hid (∀ u, Below w.heap.size w u → Calls Try.prog 15 #[.agg #[.int .u64 S, .int .i64 room, .int .i64 votes, .slice A n cap, .int .u64 LS, .int .i64 LM, .slice LA R lcap]] u fun e w' => e = .returned (.bool false) ∧ Below u.heap.size u w')) : Calls Try.prog 11 #[.agg #[.int .u64 S, .int .i64 room, .int .i64 votes, .slice A n cap, .int .u64 LS, .int .i64 LM, .slice LA R lcap], .string s] w fun e w' => e = .returned (.tuple #[elz, .int .i64 1]) ∧ Below w.heap.size w w' := by
  have BX : Hid (Below w.heap.size w ((w.alloc (.cells #[.int .u64 S, .int .i64 room, .int .i64 votes, .slice A n cap, .int .u64 LS, .int .i64 LM, .slice LA R lcap] 28)).alloc (.cells #[.int .u64 0, .int .i64 0, .int .i64 0, .slice none 0 0, .int .u64 0, .int .i64 0, .slice none 0 0] 28))) := (bel_alloc _ _).alloc (by simp) _
  have KX : Hid (Blk ((w.alloc (.cells #[.int .u64 S, .int .i64 room, .int .i64 votes, .slice A n cap, .int .u64 LS, .int .i64 LM, .slice LA R lcap] 28)).alloc (.cells #[.int .u64 0, .int .i64 0, .int .i64 0, .slice none 0 0, .int .u64 0, .int .i64 0, .slice none 0 0] 28)) w.heap.size 28 #[.int .u64 S, .int .i64 room, .int .i64 votes, .slice A n cap, .int .u64 LS, .int .i64 LM, .slice LA R lcap]) := (Blk.new _ _ _).alloc _
  have KR : Hid (Blk ((w.alloc (.cells #[.int .u64 S, .int .i64 room, .int .i64 votes, .slice A n cap, .int .u64 LS, .int .i64 LM, .slice LA R lcap] 28)).alloc (.cells #[.int .u64 0, .int .i64 0, .int .i64 0, .slice none 0 0, .int .u64 0, .int .i64 0, .slice none 0 0] 28)) (w.heap.size + 1) 28 #[.int .u64 0, .int .i64 0, .int .i64 0, .slice none 0 0, .int .u64 0, .int .i64 0, .slice none 0 0]) := by
    have e := Blk.new (w.alloc (.cells #[.int .u64 S, .int .i64 room, .int .i64 votes, .slice A n cap, .int .u64 LS, .int .i64 LM, .slice LA R lcap] 28)) 28 #[.int .u64 0, .int .i64 0, .int .i64 0, .slice none 0 0, .int .u64 0, .int .i64 0, .slice none 0 0]
    simp only [World.size_alloc] at e
    exact e
  go_enter Try.func11, Try.ntmps11
  go_wp2_with fail
  generalize ((w.alloc (.cells #[.int .u64 S, .int .i64 room, .int .i64 votes, .slice A n cap, .int .u64 LS, .int .i64 LM, .slice LA R lcap] 28)).alloc (.cells #[.int .u64 0, .int .i64 0, .int .i64 0, .slice none 0 0, .int .u64 0, .int .i64 0, .slice none 0 0] 28)) = X at BX KX KR ⊢
  refine (RC.out _ BX.out).mono ?_
  rintro e u1 ⟨rfl, b1⟩
  have B1 := hidE (bel_trans BX.out b1)
  have K1 := hidE (KX.out.since b1)
  have R1 := hidE (KR.out.since b1)
  clear b1 BX KX KR RC
  have r0 : u1.cell? ⟨w.heap.size + 1, 0, none⟩ = some (.int .u64 0) := R1.out.cell 0
  have r1 : u1.cell? ⟨w.heap.size + 1, 1, none⟩ = some (.int .i64 0) := R1.out.cell 1
  have r2 : u1.cell? ⟨w.heap.size + 1, 2, none⟩ = some (.int .i64 0) := R1.out.cell 2
  have r3 : u1.cell? ⟨w.heap.size + 1, 3, none⟩ = some (.slice none 0 0) := R1.out.cell 3
  have r4 : u1.cell? ⟨w.heap.size + 1, 4, none⟩ = some (.int .u64 0) := R1.out.cell 4
  have r5 : u1.cell? ⟨w.heap.size + 1, 5, none⟩ = some (.int .i64 0) := R1.out.cell 5
  have r6 : u1.cell? ⟨w.heap.size + 1, 6, none⟩ = some (.slice none 0 0) := R1.out.cell 6
  have z0 := R1.out.frozen 0
  have z1 := R1.out.frozen 1
  have z2 := R1.out.frozen 2
  have z3 := R1.out.frozen 3
  have z4 := R1.out.frozen 4
  have z5 := R1.out.frozen 5
  have z6 := R1.out.frozen 6
  go_wp2_with fail
  refine bodyPost_ret (v := .tuple #[.agg #[.int .u64 0, .int .i64 0, .int .i64 0, .slice none 0 0, .int .u64 0, .int .i64 0, .slice none 0 0], .int .i64 1]) ?_ rfl ?_
  rotate_left
  · exact ⟨rfl, eput7_below B1.out (by omega) _ _ _ _ _ _ _⟩
  have c3 := eput7_blk (t := 28) R1.out (.int .u64 0) (.int .i64 0) (.int .i64 0) (.slice none 0 0) (.int .u64 0) (.int .i64 0) (.slice none 0 0)
  have c30 := c3.cell 0
  have c31 := c3.cell 1
  have c32 := c3.cell 2
  have c33 := c3.cell 3
  have c34 := c3.cell 4
  have c35 := c3.cell 5
  have c36 := c3.cell 6
  change (results _ _).run _ (eput7 u1 (w.heap.size + 1) (.int .u64 0) (.int .i64 0) (.int .i64 0) (.slice none 0 0) (.int .u64 0) (.int .i64 0) (.slice none 0 0)) = .ok _ (eput7 u1 (w.heap.size + 1) (.int .u64 0) (.int .i64 0) (.int .i64 0) (.slice none 0 0) (.int .u64 0) (.int .i64 0) (.slice none 0 0))
  generalize eput7 u1 (w.heap.size + 1) (.int .u64 0) (.int .i64 0) (.int .i64 0) (.slice none 0 0) (.int .u64 0) (.int .i64 0) (.slice none 0 0) = W5 at c30 c31 c32 c33 c34 c35 c36
  simp [results, Try.results11, go_sem, c30, c31, c32, c33, c34, c35, c36]
set_option maxHeartbeats 3200000 in
theorem eaddC_full0 (w : World) (S room votes LS LM : Int) (A LA : Option Addr) (n cap R lcap p : Nat) (bs : List Bkt) (L : Nat → Nat) (Z : Nat → Nat → Int) (b : Bkt) (s : ByteArray) (RC : Hid (∀ u, Below w.heap.size w u → Calls Try.prog 15 #[.agg #[.int .u64 S, .int .i64 room, .int .i64 votes, .slice A n cap, .int .u64 LS, .int .i64 LM, .slice LA R lcap]] u fun e w' => e = .returned (.bool true) ∧ Below u.heap.size u w')) (EA : Hid (ElAt w (.agg #[.int .u64 S, .int .i64 room, .int .i64 votes, .slice A n cap, .int .u64 LS, .int .i64 LM, .slice LA R lcap]) ⟨S, room, votes, bs, LS, LM, R, L, Z⟩)) (hn : n = bs.length) (pn : p < n) (n1 : n ≤ 256) (hp : p = placeN S s bs.length 0) (uS : U S) (hs : s.size ≤ 100) (hb : bs[p]? = some b) (he : ∀ (i : Nat) (x : Bkt), bs[i]? = some x → x.es.length ≤ 1000) (rb : RightB room b) (r1 : 1 ≤ room) (v1 : 1 ≤ votes) (v2 : votes ≤ 64) (ha : El.addB room.toNat votes b s = none) : Calls Try.prog 11 #[.agg #[.int .u64 S, .int .i64 room, .int .i64 votes, .slice A n cap, .int .u64 LS, .int .i64 LM, .slice LA R lcap], .string s] w fun e w' => e = .returned (.tuple #[elz, .int .i64 5]) ∧ Below w.heap.size w w' := by
  have HA := hidE ha
  clear ha
  have HN := hidE hn
  have HP := hidE hp
  have HB := hidE hb
  have HE := hidE he
  have HRB := hidE rb
  have US := hidE uS
  have CC := hidE fun u (q : Below w.heap.size w u) => ecopied_any u (.slice A n cap) bs n p (by
    obtain ⟨bv, rv, e1, e2, e3⟩ := EA.out.keep (keep_of_below q)
    unfold elv at e1
    simp at e1
    rw [e1.1]; exact e2) HN.out (by omega) (by omega) HE.out
  clear hn hp hb he rb
  have BX : Hid (Below w.heap.size w ((w.alloc (.cells #[.int .u64 S, .int .i64 room, .int .i64 votes, .slice A n cap, .int .u64 LS, .int .i64 LM, .slice LA R lcap] 28)).alloc (.cells #[.int .u64 0, .int .i64 0, .int .i64 0, .slice none 0 0, .int .u64 0, .int .i64 0, .slice none 0 0] 28))) := (bel_alloc _ _).alloc (by simp) _
  have KX : Hid (Blk ((w.alloc (.cells #[.int .u64 S, .int .i64 room, .int .i64 votes, .slice A n cap, .int .u64 LS, .int .i64 LM, .slice LA R lcap] 28)).alloc (.cells #[.int .u64 0, .int .i64 0, .int .i64 0, .slice none 0 0, .int .u64 0, .int .i64 0, .slice none 0 0] 28)) w.heap.size 28 #[.int .u64 S, .int .i64 room, .int .i64 votes, .slice A n cap, .int .u64 LS, .int .i64 LM, .slice LA R lcap]) := (Blk.new _ _ _).alloc _
  have KR : Hid (Blk ((w.alloc (.cells #[.int .u64 S, .int .i64 room, .int .i64 votes, .slice A n cap, .int .u64 LS, .int .i64 LM, .slice LA R lcap] 28)).alloc (.cells #[.int .u64 0, .int .i64 0, .int .i64 0, .slice none 0 0, .int .u64 0, .int .i64 0, .slice none 0 0] 28)) (w.heap.size + 1) 28 #[.int .u64 0, .int .i64 0, .int .i64 0, .slice none 0 0, .int .u64 0, .int .i64 0, .slice none 0 0]) := by
    have e := Blk.new (w.alloc (.cells #[.int .u64 S, .int .i64 room, .int .i64 votes, .slice A n cap, .int .u64 LS, .int .i64 LM, .slice LA R lcap] 28)) 28 #[.int .u64 0, .int .i64 0, .int .i64 0, .slice none 0 0, .int .u64 0, .int .i64 0, .slice none 0 0]
    simp only [World.size_alloc] at e
    exact e
  go_enter Try.func11, Try.ntmps11
  go_wp2_with fail
  generalize ((w.alloc (.cells #[.int .u64 S, .int .i64 room, .int .i64 votes, .slice A n cap, .int .u64 LS, .int .i64 LM, .slice LA R lcap] 28)).alloc (.cells #[.int .u64 0, .int .i64 0, .int .i64 0, .slice none 0 0, .int .u64 0, .int .i64 0, .slice none 0 0] 28)) = X at BX KX KR ⊢
  refine (RC.out _ BX.out).mono ?_
  rintro e u1 ⟨rfl, b1⟩
  have B1 := hidE (bel_trans BX.out b1)
  have K1 := hidE (KX.out.since b1)
  have R1 := hidE (KR.out.since b1)
  clear b1 BX KX KR RC
  have x3 : u1.cell? ⟨w.heap.size, 3, none⟩ = some (.slice A n cap) := K1.out.cell 3
  go_wp2_with fail
  refine (CC.out _ B1.out).mono ?_
  rintro e u2 ⟨g, cn, V, AG, rfl, hcn, hcop⟩
  have CP := hidE hcop
  have HCN := hidE hcn
  have B2 := hidE (bel_trans B1.out CP.out.since)
  have K2 := hidE (K1.out.since CP.out.since)
  have R2 := hidE (R1.out.since CP.out.since)
  have Z1 : Hid (w.heap.size + 1 < u1.heap.size) := R1.out.lt
  clear x3 hcop hcn CC B1 K1 R1
  have x3 : u2.cell? ⟨w.heap.size, 3, none⟩ = some (.slice A n cap) := K2.out.cell 3
  have f3 := K2.out.frozen 3
  have K3 : Hid (Blk (u2.setCell ⟨w.heap.size, 3, none⟩ (.slice (some ⟨g, 0, none⟩) n cn)) w.heap.size 28 #[.int .u64 S, .int .i64 room, .int .i64 votes, .slice (some ⟨g, 0, none⟩) n cn, .int .u64 LS, .int .i64 LM, .slice LA R lcap]) := set3_blk K2.out _
  have R3 : Hid (Blk (u2.setCell ⟨w.heap.size, 3, none⟩ (.slice (some ⟨g, 0, none⟩) n cn)) (w.heap.size + 1) 28 #[.int .u64 0, .int .i64 0, .int .i64 0, .slice none 0 0, .int .u64 0, .int .i64 0, .slice none 0 0]) := R2.out.other (a := ⟨w.heap.size, 3, none⟩) (by show w.heap.size + 1 ≠ w.heap.size; omega) _
  have B3 : Hid (Below w.heap.size w (u2.setCell ⟨w.heap.size, 3, none⟩ (.slice (some ⟨g, 0, none⟩) n cn))) := B2.out.setCell (p := ⟨w.heap.size, 3, none⟩) (Nat.le_refl _) _
  have S3 : Hid (Same (fun q => u1.heap.size ≤ q) u2 (u2.setCell ⟨w.heap.size, 3, none⟩ (.slice (some ⟨g, 0, none⟩) n cn))) := Same.setCell (a := ⟨w.heap.size, 3, none⟩) (by show ¬ u1.heap.size ≤ w.heap.size; have := Z1.out; omega) _
  have Y3 : Hid (Blk u2 w.heap.size 28 #[.int .u64 S, .int .i64 room, .int .i64 votes, .slice A n cap, .int .u64 LS, .int .i64 LM, .slice LA R lcap] ∧ u2.heap.size = (u2.setCell ⟨w.heap.size, 3, none⟩ (.slice (some ⟨g, 0, none⟩) n cn)).heap.size) := ⟨K2.out, (size_setCell _ _ _).symm⟩
  have y0 : (u2.setCell ⟨w.heap.size, 3, none⟩ (.slice (some ⟨g, 0, none⟩) n cn)).cell? ⟨w.heap.size, 0, none⟩ = some (.int .u64 S) := K3.out.cell 0
  have y1 : (u2.setCell ⟨w.heap.size, 3, none⟩ (.slice (some ⟨g, 0, none⟩) n cn)).cell? ⟨w.heap.size, 1, none⟩ = some (.int .i64 room) := K3.out.cell 1
  have y2 : (u2.setCell ⟨w.heap.size, 3, none⟩ (.slice (some ⟨g, 0, none⟩) n cn)).cell? ⟨w.heap.size, 2, none⟩ = some (.int .i64 votes) := K3.out.cell 2
  have y3 : (u2.setCell ⟨w.heap.size, 3, none⟩ (.slice (some ⟨g, 0, none⟩) n cn)).cell? ⟨w.heap.size, 3, none⟩ = some (.slice (some ⟨g, 0, none⟩) n cn) := K3.out.cell 3
  have y4 : (u2.setCell ⟨w.heap.size, 3, none⟩ (.slice (some ⟨g, 0, none⟩) n cn)).cell? ⟨w.heap.size, 4, none⟩ = some (.int .u64 LS) := K3.out.cell 4
  have y5 : (u2.setCell ⟨w.heap.size, 3, none⟩ (.slice (some ⟨g, 0, none⟩) n cn)).cell? ⟨w.heap.size, 5, none⟩ = some (.int .i64 LM) := K3.out.cell 5
  have y6 : (u2.setCell ⟨w.heap.size, 3, none⟩ (.slice (some ⟨g, 0, none⟩) n cn)).cell? ⟨w.heap.size, 6, none⟩ = some (.slice LA R lcap) := K3.out.cell 6
  go_wp2_with fail
  clear x3 f3 y0 y1 y2 y3 y4 y5 y6 K2 R2 B2
  generalize u2.setCell ⟨w.heap.size, 3, none⟩ (.slice (some ⟨g, 0, none⟩) n cn) = u3 at K3 R3 B3 S3 Y3 ⊢
  have BK3 : Hid (Held (fun q => u1.heap.size ≤ q) (fun u => BktsE u (.slice (some ⟨g, 0, none⟩) n cn) bs) u3) := (CP.out.bkts HN.out HCN.out).same S3.out
  have RI : Hid (∀ u, Below w.heap.size w u → RowsI u (.slice LA R lcap) R L Z) := fun u q => by
    obtain ⟨bv, rv, e1, e2, e3⟩ := EA.out.keep (keep_of_below q)
    unfold elv at e1
    simp at e1
    rw [e1.2]; exact e3
  have PC : Hid (∀ u, Below u3.heap.size u3 u → Calls Try.prog 53 #[.agg #[.int .u64 S, .int .i64 room, .int .i64 votes, .slice (some ⟨g, 0, none⟩) n cn, .int .u64 LS, .int .i64 LM, .slice LA R lcap], .string s] u fun e w' => e = .returned (.int .i64 (p : Int)) ∧ Below u.heap.size u w') := fun u q => by
    have e := ebucketOf_any u (.agg #[.int .u64 S, .int .i64 room, .int .i64 votes, .slice (some ⟨g, 0, none⟩) n cn, .int .u64 LS, .int .i64 LM, .slice LA R lcap]) ⟨S, room, votes, bs, LS, LM, R, L, Z⟩ s ⟨_, _, rfl, (BK3.out.since q).at, RI.out u (bel_trans B3.out q)⟩ US.out (by omega) (by show 1 ≤ bs.length; have := HN.out; omega) (by show bs.length ≤ 1000; have := HN.out; omega)
    rw [HP.out]
    exact e
  have RK3 : Hid (RowK u3 g n V AG) := CP.out.row.of (S3.out.2 g CP.out.base CP.out.row.lt)
  have AGP : Hid (AG p = b.ag) := CP.out.ags p b HB.out
  have OW3 : Hid (u3.ownsRow u1.heap.size 76 3 (V p) b.es.length (eCells b.es)) := owns_at (CP.out.own b pn HB.out).1 fun q hq => S3.out.2 q ((CP.out.own b pn HB.out).1.lt q hq).1 ((CP.out.own b pn HB.out).1.lt q hq).2
  have NE3 : Hid ((V p).ownBlock ≠ some g) := (CP.out.own b pn HB.out).2
  have RB3 : Hid (RightB room ⟨b.es, AG p⟩) := by rw [AGP.out]; exact HRB.out
  have RBX : Hid ((⟨b.es, AG p⟩ : Bkt) = b) := hidE (by rw [AGP.out])
  have BE3 : Hid (u1.heap.size ≤ u3.heap.size) := by have := CP.out.since.size; have := Y3.out.2; show u1.heap.size ≤ u3.heap.size; omega
  refine (ecome_no u3 u1.heap.size g n p cn V AG b.es S room votes LS LM (.slice LA R lcap) s pn HCN.out (HE.out p b HB.out) PC RK3.out OW3.out NE3.out CP.out.base BE3.out RB3.out r1 (by rw [RBX.out]; exact HA.out)).mono ?_
  rintro e u4 ⟨rfl, b4⟩
  have R4 := hidE (R3.out.since b4)
  have B4 := hidE (bel_trans B3.out b4)
  clear b4 PC RK3 OW3 NE3 RB3 BE3 K3 R3 B3 S3 BK3 CP
  have R5 : Hid (Blk (u4.alloc (.cells #[.string ⟨#[]⟩, .int .i64 0] 68)) (w.heap.size + 1) 28 #[.int .u64 0, .int .i64 0, .int .i64 0, .slice none 0 0, .int .u64 0, .int .i64 0, .slice none 0 0]) := R4.out.alloc _
  have B5 : Hid (Below w.heap.size w (u4.alloc (.cells #[.string ⟨#[]⟩, .int .i64 0] 68))) := bel_trans B4.out (bel_alloc _ _)
  have r0 : (u4.alloc (.cells #[.string ⟨#[]⟩, .int .i64 0] 68)).cell? ⟨w.heap.size + 1, 0, none⟩ = some (.int .u64 0) := R5.out.cell 0
  have r1 : (u4.alloc (.cells #[.string ⟨#[]⟩, .int .i64 0] 68)).cell? ⟨w.heap.size + 1, 1, none⟩ = some (.int .i64 0) := R5.out.cell 1
  have r2 : (u4.alloc (.cells #[.string ⟨#[]⟩, .int .i64 0] 68)).cell? ⟨w.heap.size + 1, 2, none⟩ = some (.int .i64 0) := R5.out.cell 2
  have r3 : (u4.alloc (.cells #[.string ⟨#[]⟩, .int .i64 0] 68)).cell? ⟨w.heap.size + 1, 3, none⟩ = some (.slice none 0 0) := R5.out.cell 3
  have r4 : (u4.alloc (.cells #[.string ⟨#[]⟩, .int .i64 0] 68)).cell? ⟨w.heap.size + 1, 4, none⟩ = some (.int .u64 0) := R5.out.cell 4
  have r5 : (u4.alloc (.cells #[.string ⟨#[]⟩, .int .i64 0] 68)).cell? ⟨w.heap.size + 1, 5, none⟩ = some (.int .i64 0) := R5.out.cell 5
  have r6 : (u4.alloc (.cells #[.string ⟨#[]⟩, .int .i64 0] 68)).cell? ⟨w.heap.size + 1, 6, none⟩ = some (.slice none 0 0) := R5.out.cell 6
  have z0 := R5.out.frozen 0
  have z1 := R5.out.frozen 1
  have z2 := R5.out.frozen 2
  have z3 := R5.out.frozen 3
  have z4 := R5.out.frozen 4
  have z5 := R5.out.frozen 5
  have z6 := R5.out.frozen 6
  go_wp2_with fail
  refine bodyPost_ret (v := .tuple #[.agg #[.int .u64 0, .int .i64 0, .int .i64 0, .slice none 0 0, .int .u64 0, .int .i64 0, .slice none 0 0], .int .i64 5]) ?_ rfl ?_
  rotate_left
  · exact ⟨rfl, eput7_below B5.out (by omega) _ _ _ _ _ _ _⟩
  have c3 := eput7_blk (t := 28) R5.out (.int .u64 0) (.int .i64 0) (.int .i64 0) (.slice none 0 0) (.int .u64 0) (.int .i64 0) (.slice none 0 0)
  have c30 := c3.cell 0
  have c31 := c3.cell 1
  have c32 := c3.cell 2
  have c33 := c3.cell 3
  have c34 := c3.cell 4
  have c35 := c3.cell 5
  have c36 := c3.cell 6
  change (results _ _).run _ (eput7 (u4.alloc (.cells #[.string ⟨#[]⟩, .int .i64 0] 68)) (w.heap.size + 1) (.int .u64 0) (.int .i64 0) (.int .i64 0) (.slice none 0 0) (.int .u64 0) (.int .i64 0) (.slice none 0 0)) = .ok _ (eput7 (u4.alloc (.cells #[.string ⟨#[]⟩, .int .i64 0] 68)) (w.heap.size + 1) (.int .u64 0) (.int .i64 0) (.int .i64 0) (.slice none 0 0) (.int .u64 0) (.int .i64 0) (.slice none 0 0))
  generalize eput7 (u4.alloc (.cells #[.string ⟨#[]⟩, .int .i64 0] 68)) (w.heap.size + 1) (.int .u64 0) (.int .i64 0) (.int .i64 0) (.slice none 0 0) (.int .u64 0) (.int .i64 0) (.slice none 0 0) = W5 at c30 c31 c32 c33 c34 c35 c36
  simp [results, Try.results11, go_sem, c30, c31, c32, c33, c34, c35, c36]
set_option maxHeartbeats 6400000 in
theorem eaddC_ok0 (w : World) (S room votes LS LM : Int) (A LA : Option Addr) (n cap R lcap p : Nat) (bs : List Bkt) (L : Nat → Nat) (Z : Nat → Nat → Int) (b : Bkt) (s : ByteArray) (RC : Hid (∀ u, Below w.heap.size w u → Calls Try.prog 15 #[.agg #[.int .u64 S, .int .i64 room, .int .i64 votes, .slice A n cap, .int .u64 LS, .int .i64 LM, .slice LA R lcap]] u fun e w' => e = .returned (.bool true) ∧ Below u.heap.size u w')) (EA : Hid (ElAt w (.agg #[.int .u64 S, .int .i64 room, .int .i64 votes, .slice A n cap, .int .u64 LS, .int .i64 LM, .slice LA R lcap]) ⟨S, room, votes, bs, LS, LM, R, L, Z⟩)) (hn : n = bs.length) (pn : p < n) (n1 : n ≤ 256) (hp : p = placeN S s bs.length 0) (uS : U S) (hs : s.size ≤ 100) (hb : bs[p]? = some b) (he : ∀ (i : Nat) (x : Bkt), bs[i]? = some x → x.es.length ≤ 1000) (rb : RightB room b) (r1 : 1 ≤ room) (v1 : 1 ≤ votes) (v2 : votes ≤ 64) (b' : Bkt) (o : Option (ByteArray × Int)) (ha : El.addB room.toNat votes b s = some (b', o)) (gk : ByteArray) (gv : Int) (c : Nat) (ZA : Nat → Nat → Int) (hio : itO o = .agg #[.string gk, .int .i64 gv]) (gs : gk.size ≤ 100) (g0 : 0 ≤ gv) (g1 : gv ≤ 1099511627776)
    (LC : Hid (∀ u, Below w.heap.size w u → Calls Try.prog 30 #[.agg #[.int .u64 LS, .int .i64 LM, .slice LA R lcap], .string gk, .int .i64 gv] u (GaveS u LS LM R c ZA))) :
    Calls Try.prog 11 #[.agg #[.int .u64 S, .int .i64 room, .int .i64 votes, .slice A n cap, .int .u64 LS, .int .i64 LM, .slice LA R lcap], .string s] w fun e w' => ∃ g cn LB lcb, e = .returned (.tuple #[.agg #[.int .u64 S, .int .i64 room, .int .i64 votes, .slice (some ⟨g, 0, none⟩) n cn, .int .u64 LS, .int .i64 LM, .slice LB R lcb], .int .i64 0]) ∧ Held (fun q => w.heap.size ≤ q) (fun u => BktsE u (.slice (some ⟨g, 0, none⟩) n cn) (bs.set p b') ∧ RowsI u (.slice LB R lcb) R (fun _ => c) ZA) w' ∧ Below w.heap.size w w' := by
  have HA := hidE ha
  have HIO := hidE hio
  clear ha hio
  have HN := hidE hn
  have HP := hidE hp
  have HB := hidE hb
  have HE := hidE he
  have HRB := hidE rb
  have US := hidE uS
  have CC := hidE fun u (q : Below w.heap.size w u) => ecopied_any u (.slice A n cap) bs n p (by
    obtain ⟨bv, rv, e1, e2, e3⟩ := EA.out.keep (keep_of_below q)
    unfold elv at e1
    simp at e1
    rw [e1.1]; exact e2) HN.out (by omega) (by omega) HE.out
  clear hn hp hb he rb
  have BX : Hid (Below w.heap.size w ((w.alloc (.cells #[.int .u64 S, .int .i64 room, .int .i64 votes, .slice A n cap, .int .u64 LS, .int .i64 LM, .slice LA R lcap] 28)).alloc (.cells #[.int .u64 0, .int .i64 0, .int .i64 0, .slice none 0 0, .int .u64 0, .int .i64 0, .slice none 0 0] 28))) := (bel_alloc _ _).alloc (by simp) _
  have KX : Hid (Blk ((w.alloc (.cells #[.int .u64 S, .int .i64 room, .int .i64 votes, .slice A n cap, .int .u64 LS, .int .i64 LM, .slice LA R lcap] 28)).alloc (.cells #[.int .u64 0, .int .i64 0, .int .i64 0, .slice none 0 0, .int .u64 0, .int .i64 0, .slice none 0 0] 28)) w.heap.size 28 #[.int .u64 S, .int .i64 room, .int .i64 votes, .slice A n cap, .int .u64 LS, .int .i64 LM, .slice LA R lcap]) := (Blk.new _ _ _).alloc _
  have KR : Hid (Blk ((w.alloc (.cells #[.int .u64 S, .int .i64 room, .int .i64 votes, .slice A n cap, .int .u64 LS, .int .i64 LM, .slice LA R lcap] 28)).alloc (.cells #[.int .u64 0, .int .i64 0, .int .i64 0, .slice none 0 0, .int .u64 0, .int .i64 0, .slice none 0 0] 28)) (w.heap.size + 1) 28 #[.int .u64 0, .int .i64 0, .int .i64 0, .slice none 0 0, .int .u64 0, .int .i64 0, .slice none 0 0]) := by
    have e := Blk.new (w.alloc (.cells #[.int .u64 S, .int .i64 room, .int .i64 votes, .slice A n cap, .int .u64 LS, .int .i64 LM, .slice LA R lcap] 28)) 28 #[.int .u64 0, .int .i64 0, .int .i64 0, .slice none 0 0, .int .u64 0, .int .i64 0, .slice none 0 0]
    simp only [World.size_alloc] at e
    exact e
  go_enter Try.func11, Try.ntmps11
  go_wp2_with fail
  generalize ((w.alloc (.cells #[.int .u64 S, .int .i64 room, .int .i64 votes, .slice A n cap, .int .u64 LS, .int .i64 LM, .slice LA R lcap] 28)).alloc (.cells #[.int .u64 0, .int .i64 0, .int .i64 0, .slice none 0 0, .int .u64 0, .int .i64 0, .slice none 0 0] 28)) = X at BX KX KR ⊢
  refine (RC.out _ BX.out).mono ?_
  rintro e u1 ⟨rfl, b1⟩
  have B1 := hidE (bel_trans BX.out b1)
  have K1 := hidE (KX.out.since b1)
  have R1 := hidE (KR.out.since b1)
  clear b1 BX KX KR RC
  have x3 : u1.cell? ⟨w.heap.size, 3, none⟩ = some (.slice A n cap) := K1.out.cell 3
  go_wp2_with fail
  refine (CC.out _ B1.out).mono ?_
  rintro e u2 ⟨g, cn, V, AG, rfl, hcn, hcop⟩
  have CP := hidE hcop
  have HCN := hidE hcn
  have B2 := hidE (bel_trans B1.out CP.out.since)
  have K2 := hidE (K1.out.since CP.out.since)
  have R2 := hidE (R1.out.since CP.out.since)
  have Z1 : Hid (w.heap.size + 1 < u1.heap.size) := R1.out.lt
  clear x3 hcop hcn CC B1 K1 R1
  have x3 : u2.cell? ⟨w.heap.size, 3, none⟩ = some (.slice A n cap) := K2.out.cell 3
  have f3 := K2.out.frozen 3
  have K3 : Hid (Blk (u2.setCell ⟨w.heap.size, 3, none⟩ (.slice (some ⟨g, 0, none⟩) n cn)) w.heap.size 28 #[.int .u64 S, .int .i64 room, .int .i64 votes, .slice (some ⟨g, 0, none⟩) n cn, .int .u64 LS, .int .i64 LM, .slice LA R lcap]) := set3_blk K2.out _
  have R3 : Hid (Blk (u2.setCell ⟨w.heap.size, 3, none⟩ (.slice (some ⟨g, 0, none⟩) n cn)) (w.heap.size + 1) 28 #[.int .u64 0, .int .i64 0, .int .i64 0, .slice none 0 0, .int .u64 0, .int .i64 0, .slice none 0 0]) := R2.out.other (a := ⟨w.heap.size, 3, none⟩) (by show w.heap.size + 1 ≠ w.heap.size; omega) _
  have B3 : Hid (Below w.heap.size w (u2.setCell ⟨w.heap.size, 3, none⟩ (.slice (some ⟨g, 0, none⟩) n cn))) := B2.out.setCell (p := ⟨w.heap.size, 3, none⟩) (Nat.le_refl _) _
  have S3 : Hid (Same (fun q => u1.heap.size ≤ q) u2 (u2.setCell ⟨w.heap.size, 3, none⟩ (.slice (some ⟨g, 0, none⟩) n cn))) := Same.setCell (a := ⟨w.heap.size, 3, none⟩) (by show ¬ u1.heap.size ≤ w.heap.size; have := Z1.out; omega) _
  have Y3 : Hid (Blk u2 w.heap.size 28 #[.int .u64 S, .int .i64 room, .int .i64 votes, .slice A n cap, .int .u64 LS, .int .i64 LM, .slice LA R lcap] ∧ u2.heap.size = (u2.setCell ⟨w.heap.size, 3, none⟩ (.slice (some ⟨g, 0, none⟩) n cn)).heap.size) := ⟨K2.out, (size_setCell _ _ _).symm⟩
  have y0 : (u2.setCell ⟨w.heap.size, 3, none⟩ (.slice (some ⟨g, 0, none⟩) n cn)).cell? ⟨w.heap.size, 0, none⟩ = some (.int .u64 S) := K3.out.cell 0
  have y1 : (u2.setCell ⟨w.heap.size, 3, none⟩ (.slice (some ⟨g, 0, none⟩) n cn)).cell? ⟨w.heap.size, 1, none⟩ = some (.int .i64 room) := K3.out.cell 1
  have y2 : (u2.setCell ⟨w.heap.size, 3, none⟩ (.slice (some ⟨g, 0, none⟩) n cn)).cell? ⟨w.heap.size, 2, none⟩ = some (.int .i64 votes) := K3.out.cell 2
  have y3 : (u2.setCell ⟨w.heap.size, 3, none⟩ (.slice (some ⟨g, 0, none⟩) n cn)).cell? ⟨w.heap.size, 3, none⟩ = some (.slice (some ⟨g, 0, none⟩) n cn) := K3.out.cell 3
  have y4 : (u2.setCell ⟨w.heap.size, 3, none⟩ (.slice (some ⟨g, 0, none⟩) n cn)).cell? ⟨w.heap.size, 4, none⟩ = some (.int .u64 LS) := K3.out.cell 4
  have y5 : (u2.setCell ⟨w.heap.size, 3, none⟩ (.slice (some ⟨g, 0, none⟩) n cn)).cell? ⟨w.heap.size, 5, none⟩ = some (.int .i64 LM) := K3.out.cell 5
  have y6 : (u2.setCell ⟨w.heap.size, 3, none⟩ (.slice (some ⟨g, 0, none⟩) n cn)).cell? ⟨w.heap.size, 6, none⟩ = some (.slice LA R lcap) := K3.out.cell 6
  go_wp2_with fail
  clear x3 f3 y0 y1 y2 y3 y4 y5 y6 K2 R2 B2
  generalize u2.setCell ⟨w.heap.size, 3, none⟩ (.slice (some ⟨g, 0, none⟩) n cn) = u3 at K3 R3 B3 S3 Y3 ⊢
  have BK3 : Hid (Held (fun q => u1.heap.size ≤ q) (fun u => BktsE u (.slice (some ⟨g, 0, none⟩) n cn) bs) u3) := (CP.out.bkts HN.out HCN.out).same S3.out
  have RI : Hid (∀ u, Below w.heap.size w u → RowsI u (.slice LA R lcap) R L Z) := fun u q => by
    obtain ⟨bv, rv, e1, e2, e3⟩ := EA.out.keep (keep_of_below q)
    unfold elv at e1
    simp at e1
    rw [e1.2]; exact e3
  have PC : Hid (∀ u, Below u3.heap.size u3 u → Calls Try.prog 53 #[.agg #[.int .u64 S, .int .i64 room, .int .i64 votes, .slice (some ⟨g, 0, none⟩) n cn, .int .u64 LS, .int .i64 LM, .slice LA R lcap], .string s] u fun e w' => e = .returned (.int .i64 (p : Int)) ∧ Below u.heap.size u w') := fun u q => by
    have e := ebucketOf_any u (.agg #[.int .u64 S, .int .i64 room, .int .i64 votes, .slice (some ⟨g, 0, none⟩) n cn, .int .u64 LS, .int .i64 LM, .slice LA R lcap]) ⟨S, room, votes, bs, LS, LM, R, L, Z⟩ s ⟨_, _, rfl, (BK3.out.since q).at, RI.out u (bel_trans B3.out q)⟩ US.out (by omega) (by show 1 ≤ bs.length; have := HN.out; omega) (by show bs.length ≤ 1000; have := HN.out; omega)
    rw [HP.out]
    exact e
  have RK3 : Hid (RowK u3 g n V AG) := CP.out.row.of (S3.out.2 g CP.out.base CP.out.row.lt)
  have AGP : Hid (AG p = b.ag) := CP.out.ags p b HB.out
  have OW3 : Hid (u3.ownsRow u1.heap.size 76 3 (V p) b.es.length (eCells b.es)) := owns_at (CP.out.own b pn HB.out).1 fun q hq => S3.out.2 q ((CP.out.own b pn HB.out).1.lt q hq).1 ((CP.out.own b pn HB.out).1.lt q hq).2
  have NE3 : Hid ((V p).ownBlock ≠ some g) := (CP.out.own b pn HB.out).2
  have RB3 : Hid (RightB room ⟨b.es, AG p⟩) := by rw [AGP.out]; exact HRB.out
  have RBX : Hid ((⟨b.es, AG p⟩ : Bkt) = b) := hidE (by rw [AGP.out])
  have BE3 : Hid (u1.heap.size ≤ u3.heap.size) := by have := CP.out.since.size; have := Y3.out.2; show u1.heap.size ≤ u3.heap.size; omega
  refine (ecome_ok u3 u1.heap.size g n p cn V AG b.es S room votes LS LM (.slice LA R lcap) s pn HCN.out (HE.out p b HB.out) PC RK3.out OW3.out NE3.out CP.out.base BE3.out RB3.out r1 v1 v2 b' o (by rw [RBX.out]; exact HA.out)).mono ?_
  rintro e u4 ⟨rfl, hcame⟩
  rw [HIO.out]
  have CM := hidE hcame
  obtain ⟨V', AG', gp, row4, _, _, _, _, same4, bel4⟩ := hcame
  have ge := CP.out.base
  have fr4 : ∀ q, q < u1.heap.size → u4.heap[q]? = u3.heap[q]? := fun q hq => bel4.block q hq
  have K4 : Hid (Blk u4 w.heap.size 28 #[.int .u64 S, .int .i64 room, .int .i64 votes, .slice (some ⟨g, 0, none⟩) n cn, .int .u64 LS, .int .i64 LM, .slice LA R lcap]) := K3.out.of (fr4 _ (by have := Z1.out; omega))
  have R4 : Hid (Blk u4 (w.heap.size + 1) 28 #[.int .u64 0, .int .i64 0, .int .i64 0, .slice none 0 0, .int .u64 0, .int .i64 0, .slice none 0 0]) := R3.out.of (fr4 _ Z1.out)
  have Z14 : Hid (w.heap.size ≤ u1.heap.size) := by have := Z1.out; show w.heap.size ≤ u1.heap.size; omega
  have B4 : Hid (Below w.heap.size w u4) := B3.out.trans (bel4.mono Z14.out)
  have BK4 : Hid (Held (fun q => u1.heap.size ≤ q) (fun u => BktsE u (.slice (some ⟨g, 0, none⟩) n cn) (bs.set p b')) u4) := came_bkts CP.out S3.out CM.out HN.out HCN.out pn
  have SZ4 : Hid (u1.heap.size ≤ u4.heap.size) := by have := bel4.size; have := BE3.out; show u1.heap.size ≤ u4.heap.size; omega
  clear row4 same4 bel4 ge fr4 PC RK3 OW3 NE3 RB3 BE3 K3 R3 B3 S3 BK3 CP CM
  have K5 : Hid (Blk (u4.alloc (.cells #[.string gk, .int .i64 gv] 68)) w.heap.size 28 #[.int .u64 S, .int .i64 room, .int .i64 votes, .slice (some ⟨g, 0, none⟩) n cn, .int .u64 LS, .int .i64 LM, .slice LA R lcap]) := K4.out.alloc _
  have R5 : Hid (Blk (u4.alloc (.cells #[.string gk, .int .i64 gv] 68)) (w.heap.size + 1) 28 #[.int .u64 0, .int .i64 0, .int .i64 0, .slice none 0 0, .int .u64 0, .int .i64 0, .slice none 0 0]) := R4.out.alloc _
  have B5 : Hid (Below w.heap.size w (u4.alloc (.cells #[.string gk, .int .i64 gv] 68))) := bel_trans B4.out (bel_alloc _ _)
  have G5 : Hid (Blk (u4.alloc (.cells #[.string gk, .int .i64 gv] 68)) u4.heap.size 68 #[.string gk, .int .i64 gv]) := Blk.new _ _ _
  have BK5 : Hid (Held (fun q => u1.heap.size ≤ q) (fun u => BktsE u (.slice (some ⟨g, 0, none⟩) n cn) (bs.set p b')) (u4.alloc (.cells #[.string gk, .int .i64 gv] 68))) := BK4.out.since (bel_alloc _ _)
  have SZ5 : Hid (u1.heap.size ≤ (u4.alloc (.cells #[.string gk, .int .i64 gv] 68)).heap.size) := by have := SZ4.out; show u1.heap.size ≤ _; simp; omega
  clear K4 R4 B4 BK4
  go_upto_region 7 with fail
  generalize (u4.alloc (.cells #[.string gk, .int .i64 gv] 68)) = u5 at K5 R5 B5 G5 BK5 SZ5 ⊢
  generalize u4.heap.size = gq at G5 ⊢
  have x4 : u5.cell? ⟨w.heap.size, 4, none⟩ = some (.int .u64 LS) := K5.out.cell 4
  have x5 : u5.cell? ⟨w.heap.size, 5, none⟩ = some (.int .i64 LM) := K5.out.cell 5
  have x6 : u5.cell? ⟨w.heap.size, 6, none⟩ = some (.slice LA R lcap) := K5.out.cell 6
  have y0 : u5.cell? ⟨gq, 0, none⟩ = some (.string gk) := G5.out.cell 0
  have y1 : u5.cell? ⟨gq, 1, none⟩ = some (.int .i64 gv) := G5.out.cell 1
  go_wp2_with fail
  refine (LC.out _ B5.out).mono ?_
  rintro e u6 ⟨xl, rfl, hxl, b6⟩
  obtain ⟨rl, rfl, hrl⟩ := hxl.at
  obtain ⟨LB, lcb, _, _, rfl, _⟩ := hrl.read
  clear hrl
  have HL6 : Hid (Held (fun q => u5.heap.size ≤ q) (fun u => RowsI u (.slice LB R lcb) R (fun _ => c) ZA) u6) := fun u e => by
    obtain ⟨v, e1, e2⟩ := hxl u e
    simp at e1
    rw [e1]; exact e2
  have K6 := hidE (K5.out.since b6)
  have R6 := hidE (R5.out.since b6)
  have B6 := hidE (bel_trans B5.out b6)
  have BK6 := hidE (BK5.out.since b6)
  clear hxl b6 x4 x5 x6 y0 y1 K5 R5 B5 BK5 G5 LC
  have x4 : u6.cell? ⟨w.heap.size, 4, none⟩ = some (.int .u64 LS) := K6.out.cell 4
  have x5 : u6.cell? ⟨w.heap.size, 5, none⟩ = some (.int .i64 LM) := K6.out.cell 5
  have x6 : u6.cell? ⟨w.heap.size, 6, none⟩ = some (.slice LA R lcap) := K6.out.cell 6
  have f4 := K6.out.frozen 4
  have f5 := K6.out.frozen 5
  have f6 := K6.out.frozen 6
  go_upto_region 8 with fail
  have K7 : Hid (Blk (put456 u6 w.heap.size (.int .u64 LS) (.int .i64 LM) (.slice LB R lcb)) w.heap.size 28 #[.int .u64 S, .int .i64 room, .int .i64 votes, .slice (some ⟨g, 0, none⟩) n cn, .int .u64 LS, .int .i64 LM, .slice LB R lcb]) := put456_blk K6.out _ _ _
  have R7 : Hid (Blk (put456 u6 w.heap.size (.int .u64 LS) (.int .i64 LM) (.slice LB R lcb)) (w.heap.size + 1) 28 #[.int .u64 0, .int .i64 0, .int .i64 0, .slice none 0 0, .int .u64 0, .int .i64 0, .slice none 0 0]) := R6.out.of (put456_heap _ _ _ _ _ _ (by omega))
  have B7 : Hid (Below w.heap.size w (put456 u6 w.heap.size (.int .u64 LS) (.int .i64 LM) (.slice LB R lcb))) := put456_below B6.out (Nat.le_refl _) _ _ _
  have BK7 : Hid (Held (fun q => u1.heap.size ≤ q) (fun u => BktsE u (.slice (some ⟨g, 0, none⟩) n cn) (bs.set p b')) (put456 u6 w.heap.size (.int .u64 LS) (.int .i64 LM) (.slice LB R lcb))) := BK6.out.same ⟨by rw [put456_size]; exact Nat.le_refl _, fun q d hq => put456_heap _ _ _ _ _ q (by have := Z1.out; omega)⟩
  have HL7 : Hid (Held (fun q => u5.heap.size ≤ q) (fun u => RowsI u (.slice LB R lcb) R (fun _ => c) ZA) (put456 u6 w.heap.size (.int .u64 LS) (.int .i64 LM) (.slice LB R lcb))) := HL6.out.same ⟨by rw [put456_size]; exact Nat.le_refl _, fun q d hq => put456_heap _ _ _ _ _ q (by have := Z1.out; have := SZ5.out; omega)⟩
  clear x4 x5 x6 f4 f5 f6 K6 R6 B6 BK6 HL6
  change Code.wp _ _ _ _ (put456 u6 w.heap.size (.int .u64 LS) (.int .i64 LM) (.slice LB R lcb))
  generalize (put456 u6 w.heap.size (.int .u64 LS) (.int .i64 LM) (.slice LB R lcb)) = u7 at K7 R7 B7 BK7 HL7 ⊢
  have x0 : u7.cell? ⟨w.heap.size, 0, none⟩ = some (.int .u64 S) := K7.out.cell 0
  have x1 : u7.cell? ⟨w.heap.size, 1, none⟩ = some (.int .i64 room) := K7.out.cell 1
  have x2 : u7.cell? ⟨w.heap.size, 2, none⟩ = some (.int .i64 votes) := K7.out.cell 2
  have x3 : u7.cell? ⟨w.heap.size, 3, none⟩ = some (.slice (some ⟨g, 0, none⟩) n cn) := K7.out.cell 3
  have x4 : u7.cell? ⟨w.heap.size, 4, none⟩ = some (.int .u64 LS) := K7.out.cell 4
  have x5 : u7.cell? ⟨w.heap.size, 5, none⟩ = some (.int .i64 LM) := K7.out.cell 5
  have x6 : u7.cell? ⟨w.heap.size, 6, none⟩ = some (.slice LB R lcb) := K7.out.cell 6
  have r0 : u7.cell? ⟨w.heap.size + 1, 0, none⟩ = some (.int .u64 0) := R7.out.cell 0
  have r1 : u7.cell? ⟨w.heap.size + 1, 1, none⟩ = some (.int .i64 0) := R7.out.cell 1
  have r2 : u7.cell? ⟨w.heap.size + 1, 2, none⟩ = some (.int .i64 0) := R7.out.cell 2
  have r3 : u7.cell? ⟨w.heap.size + 1, 3, none⟩ = some (.slice none 0 0) := R7.out.cell 3
  have r4 : u7.cell? ⟨w.heap.size + 1, 4, none⟩ = some (.int .u64 0) := R7.out.cell 4
  have r5 : u7.cell? ⟨w.heap.size + 1, 5, none⟩ = some (.int .i64 0) := R7.out.cell 5
  have r6 : u7.cell? ⟨w.heap.size + 1, 6, none⟩ = some (.slice none 0 0) := R7.out.cell 6
  have z0 := R7.out.frozen 0
  have z1 := R7.out.frozen 1
  have z2 := R7.out.frozen 2
  have z3 := R7.out.frozen 3
  have z4 := R7.out.frozen 4
  have z5 := R7.out.frozen 5
  have z6 := R7.out.frozen 6
  go_wp2_with fail
  refine bodyPost_ret (v := .tuple #[.agg #[.int .u64 S, .int .i64 room, .int .i64 votes, .slice (some ⟨g, 0, none⟩) n cn, .int .u64 LS, .int .i64 LM, .slice LB R lcb], .int .i64 0]) ?_ rfl ?_
  rotate_left
  · refine ⟨g, cn, LB, lcb, rfl, ?_, eput7_below B7.out (by omega) _ _ _ _ _ _ _⟩
    have sm : ∀ {D : Nat → Prop}, (∀ q, D q → u1.heap.size ≤ q) → Same D u7 (eput7 u7 (w.heap.size + 1) (.int .u64 S) (.int .i64 room) (.int .i64 votes) (.slice (some ⟨g, 0, none⟩) n cn) (.int .u64 LS) (.int .i64 LM) (.slice LB R lcb)) := fun d => ⟨by rw [eput7_size]; exact Nat.le_refl _, fun q dq hq => eput7_heap _ _ _ _ _ _ _ _ _ q (by have := d q dq; have := Z1.out; omega)⟩
    have h1 := BK7.out.same (sm fun q d => d)
    have h2 := HL7.out.same (sm fun q d => by have := SZ5.out; omega)
    exact fun u e => ⟨h1 u (e.mono fun q _ d => by have := Z1.out; show w.heap.size ≤ q; omega), h2 u (e.mono fun q _ d => by have := Z1.out; have := SZ5.out; show w.heap.size ≤ q; omega)⟩
  have c3 := eput7_blk (t := 28) R7.out (.int .u64 S) (.int .i64 room) (.int .i64 votes) (.slice (some ⟨g, 0, none⟩) n cn) (.int .u64 LS) (.int .i64 LM) (.slice LB R lcb)
  have c30 := c3.cell 0
  have c31 := c3.cell 1
  have c32 := c3.cell 2
  have c33 := c3.cell 3
  have c34 := c3.cell 4
  have c35 := c3.cell 5
  have c36 := c3.cell 6
  change (results _ _).run _ (eput7 u7 (w.heap.size + 1) (.int .u64 S) (.int .i64 room) (.int .i64 votes) (.slice (some ⟨g, 0, none⟩) n cn) (.int .u64 LS) (.int .i64 LM) (.slice LB R lcb)) = .ok _ (eput7 u7 (w.heap.size + 1) (.int .u64 S) (.int .i64 room) (.int .i64 votes) (.slice (some ⟨g, 0, none⟩) n cn) (.int .u64 LS) (.int .i64 LM) (.slice LB R lcb))
  generalize eput7 u7 (w.heap.size + 1) (.int .u64 S) (.int .i64 room) (.int .i64 votes) (.slice (some ⟨g, 0, none⟩) n cn) (.int .u64 LS) (.int .i64 LM) (.slice LB R lcb) = W5 at c30 c31 c32 c33 c34 c35 c36
  simp [results, Try.results11, go_sem, c30, c31, c32, c33, c34, c35, c36]
end Go.Proofs.Ytihealembikkiaa
