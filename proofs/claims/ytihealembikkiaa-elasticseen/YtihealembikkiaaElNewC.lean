
/-
  New of layer 15 (elastic): what the code answers.
-/
import Derived.Test.YtihealembikkiaaElCome3
import Derived.Test.YtihealembikkiaaLstAdd
namespace Go.Proofs.Ytihealembikkiaa
open Go.RowKit Fm Bl Lt El L2 L10 L14 Go.Deep Go.Shelf
set_option linter.unusedVariables false
set_option maxRecDepth 20000
set_option linter.unusedSimpArgs false

theorem make_two {P : Program} (t e : TypeId) (z : Value) (bytes : Nat) (ht : P.underlying t = some (.slice e)) (hinfo : (P.info? e).map (fun i => (i.zero, i.size, i.bytes)) = some (some z, 2, bytes))
    (n : Nat) (hbytes : bytes * n ≤ 281474976710656) (h63 : n < 4611686018427387904) (w : World) :
    (Instr.makeSlice t (.int .i64 (n : Int)) (.int .i64 (n : Int))).run P w = .ok (.slice (some ⟨w.heap.size, 0, none⟩) n n) (w.alloc (.cells (madeCells z.cells (n * 2)) e)) := by
  obtain ⟨i, hi, hzz⟩ := Option.map_eq_some_iff.1 hinfo
  simp only [Prod.mk.injEq] at hzz
  obtain ⟨hz, hs, hb⟩ := hzz
  have hb' : (i.bytes : Int) * (n : Int) ≤ 281474976710656 := by
    have h : ((i.bytes * n : Nat) : Int) ≤ 281474976710656 := by rw [hb]; omega
    rwa [Int.natCast_mul] at h
  have hr := run_make (P := P) w t e i z ht hi hz .i64 .i64 n n (by omega) (by omega) hb' (by omega)
  simp only [Int.toNat_natCast, hs] at hr
  exact hr
/-- What the last region of New keeps. -/
def SN (w Y w2 : World) : Prop := Same (fun q => q ≠ w.heap.size) Y w2 ∧ Below w.heap.size w w2
theorem row_made0 (w : World) (n : Nat) : RowK (w.alloc (.cells (madeCells #[.slice none 0 0, .int .i64 0] (n * 2)) 56)) w.heap.size n (fun _ => .slice none 0 0) (fun _ => 0) := by
  refine ⟨_, Blk.new _ _ _, fun j hj => ?_⟩
  unfold cellB
  by_cases m : j % 2 = 0
  · rw [if_pos m]
    simp [madeCells, hj, m]
  · rw [if_neg m]
    have : j % 2 = 1 := by omega
    simp [madeCells, hj, this]
set_option maxHeartbeats 3200000 in
theorem enew_bad (w : World) (S n room votes R c : Int) (uS : U S) (h : shapeE n room votes R c = false) : Calls Try.prog 21 #[.int .u64 S, .int .i64 n, .int .i64 room, .int .i64 votes, .int .i64 R, .int .i64 c] w fun e w' => e = .returned (.tuple #[elz, .int .i64 1]) ∧ Below w.heap.size w w' := by
  have BX : Hid (Below w.heap.size w (w.alloc (.cells #[.int .u64 0, .int .i64 0, .int .i64 0, .slice none 0 0, .int .u64 0, .int .i64 0, .slice none 0 0] 28))) := bel_alloc _ _
  have KX : Hid (Blk (w.alloc (.cells #[.int .u64 0, .int .i64 0, .int .i64 0, .slice none 0 0, .int .u64 0, .int .i64 0, .slice none 0 0] 28)) w.heap.size 28 #[.int .u64 0, .int .i64 0, .int .i64 0, .slice none 0 0, .int .u64 0, .int .i64 0, .slice none 0 0]) := Blk.new _ _ _
  have RO := row_any S 1
  go_enter Try.func21, Try.ntmps21
  go_wp2_with fail
  generalize w.alloc (.cells #[.int .u64 0, .int .i64 0, .int .i64 0, .slice none 0 0, .int .u64 0, .int .i64 0, .slice none 0 0] 28) = X at BX KX ⊢
  refine (RO X uS (by omega)).mono ?_
  rintro e X ⟨rfl, rfl⟩
  clear RO
  go_wp2_with fail
  by_cases hf : fitsL R c 255 = true
  · have hr := (fitsL_iff R c 255).1 hf
    obtain ⟨R', rfl⟩ : ∃ k : Nat, R = k := ⟨R.toNat, by omega⟩
    obtain ⟨c', rfl⟩ : ∃ k : Nat, c = k := ⟨c.toNat, by omega⟩
    have hb : fitsE n room votes = false := by
      cases e : fitsE n room votes with
      | false => rfl
      | true =>
        have := (fitsE_iff n room votes).1 e
        have := (shapeE_iff n room votes R' c').2 (by omega)
        rw [h] at this
        cases this
    refine (new_ok (rowF S 1) 255 R' c' X hf).mono ?_
    rintro e u1 ⟨x, rfl, hx, b1⟩
    obtain ⟨rv, rfl, hrv⟩ := hx.at
    obtain ⟨LA, lcap, _, _, rfl, _⟩ := hrv.read
    clear hrv
    have B1 := hidE (bel_trans BX.out b1)
    have K1 := hidE (KX.out.since b1)
    clear b1 BX KX hf h hx hr
    have B2 : Hid (Below w.heap.size w (u1.alloc (.cells #[.int .u64 (rowF S 1), .int .i64 255, .slice LA R' lcap] 26))) := bel_trans B1.out (bel_alloc _ _)
    have K2 : Hid (Blk (u1.alloc (.cells #[.int .u64 (rowF S 1), .int .i64 255, .slice LA R' lcap] 26)) w.heap.size 28 #[.int .u64 0, .int .i64 0, .int .i64 0, .slice none 0 0, .int .u64 0, .int .i64 0, .slice none 0 0]) := K1.out.alloc _
    go_wp2_with fail
    generalize (u1.alloc (.cells #[.int .u64 (rowF S 1), .int .i64 255, .slice LA R' lcap] 26)) = Y at B2 K2 ⊢
    refine (efits_any n room votes Y).mono ?_
    rintro e Y ⟨rfl, rfl⟩
    rw [hb]
    have r0 : Y.cell? ⟨w.heap.size, 0, none⟩ = some (.int .u64 0) := K2.out.cell 0
    have r1 : Y.cell? ⟨w.heap.size, 1, none⟩ = some (.int .i64 0) := K2.out.cell 1
    have r2 : Y.cell? ⟨w.heap.size, 2, none⟩ = some (.int .i64 0) := K2.out.cell 2
    have r3 : Y.cell? ⟨w.heap.size, 3, none⟩ = some (.slice none 0 0) := K2.out.cell 3
    have r4 : Y.cell? ⟨w.heap.size, 4, none⟩ = some (.int .u64 0) := K2.out.cell 4
    have r5 : Y.cell? ⟨w.heap.size, 5, none⟩ = some (.int .i64 0) := K2.out.cell 5
    have r6 : Y.cell? ⟨w.heap.size, 6, none⟩ = some (.slice none 0 0) := K2.out.cell 6
    have z0 := K2.out.frozen 0
    have z1 := K2.out.frozen 1
    have z2 := K2.out.frozen 2
    have z3 := K2.out.frozen 3
    have z4 := K2.out.frozen 4
    have z5 := K2.out.frozen 5
    have z6 := K2.out.frozen 6
    go_wp2_with fail
    refine bodyPost_ret (v := .tuple #[.agg #[.int .u64 0, .int .i64 0, .int .i64 0, .slice none 0 0, .int .u64 0, .int .i64 0, .slice none 0 0], .int .i64 1]) ?_ rfl ?_
    rotate_left
    · exact ⟨rfl, eput7_below B2.out (Nat.le_refl _) _ _ _ _ _ _ _⟩
    have c3 := eput7_blk (t := 28) K2.out (.int .u64 0) (.int .i64 0) (.int .i64 0) (.slice none 0 0) (.int .u64 0) (.int .i64 0) (.slice none 0 0)
    have c30 := c3.cell 0
    have c31 := c3.cell 1
    have c32 := c3.cell 2
    have c33 := c3.cell 3
    have c34 := c3.cell 4
    have c35 := c3.cell 5
    have c36 := c3.cell 6
    change (results _ _).run _ (eput7 Y w.heap.size (.int .u64 0) (.int .i64 0) (.int .i64 0) (.slice none 0 0) (.int .u64 0) (.int .i64 0) (.slice none 0 0)) = .ok _ (eput7 Y w.heap.size (.int .u64 0) (.int .i64 0) (.int .i64 0) (.slice none 0 0) (.int .u64 0) (.int .i64 0) (.slice none 0 0))
    generalize eput7 Y w.heap.size (.int .u64 0) (.int .i64 0) (.int .i64 0) (.slice none 0 0) (.int .u64 0) (.int .i64 0) (.slice none 0 0) = W5 at c30 c31 c32 c33 c34 c35 c36
    simp [results, Try.results21, go_sem, c30, c31, c32, c33, c34, c35, c36]
  · have hf : fitsL R c 255 = false := by simpa using hf
    refine (new_bad (rowF S 1) R c 255 X hf).mono ?_
    rintro e u1 ⟨rfl, b1⟩
    have B1 := hidE (bel_trans BX.out b1)
    have K1 := hidE (KX.out.since b1)
    clear b1 BX KX hf h
    have B2 : Hid (Below w.heap.size w (u1.alloc (.cells #[.int .u64 0, .int .i64 0, .slice none 0 0] 26))) := bel_trans B1.out (bel_alloc _ _)
    have K2 : Hid (Blk (u1.alloc (.cells #[.int .u64 0, .int .i64 0, .slice none 0 0] 26)) w.heap.size 28 #[.int .u64 0, .int .i64 0, .int .i64 0, .slice none 0 0, .int .u64 0, .int .i64 0, .slice none 0 0]) := K1.out.alloc _
    have r0 : (u1.alloc (.cells #[.int .u64 0, .int .i64 0, .slice none 0 0] 26)).cell? ⟨w.heap.size, 0, none⟩ = some (.int .u64 0) := K2.out.cell 0
    have r1 : (u1.alloc (.cells #[.int .u64 0, .int .i64 0, .slice none 0 0] 26)).cell? ⟨w.heap.size, 1, none⟩ = some (.int .i64 0) := K2.out.cell 1
    have r2 : (u1.alloc (.cells #[.int .u64 0, .int .i64 0, .slice none 0 0] 26)).cell? ⟨w.heap.size, 2, none⟩ = some (.int .i64 0) := K2.out.cell 2
    have r3 : (u1.alloc (.cells #[.int .u64 0, .int .i64 0, .slice none 0 0] 26)).cell? ⟨w.heap.size, 3, none⟩ = some (.slice none 0 0) := K2.out.cell 3
    have r4 : (u1.alloc (.cells #[.int .u64 0, .int .i64 0, .slice none 0 0] 26)).cell? ⟨w.heap.size, 4, none⟩ = some (.int .u64 0) := K2.out.cell 4
    have r5 : (u1.alloc (.cells #[.int .u64 0, .int .i64 0, .slice none 0 0] 26)).cell? ⟨w.heap.size, 5, none⟩ = some (.int .i64 0) := K2.out.cell 5
    have r6 : (u1.alloc (.cells #[.int .u64 0, .int .i64 0, .slice none 0 0] 26)).cell? ⟨w.heap.size, 6, none⟩ = some (.slice none 0 0) := K2.out.cell 6
    have z0 := K2.out.frozen 0
    have z1 := K2.out.frozen 1
    have z2 := K2.out.frozen 2
    have z3 := K2.out.frozen 3
    have z4 := K2.out.frozen 4
    have z5 := K2.out.frozen 5
    have z6 := K2.out.frozen 6
    go_wp2_with fail
    refine bodyPost_ret (v := .tuple #[.agg #[.int .u64 0, .int .i64 0, .int .i64 0, .slice none 0 0, .int .u64 0, .int .i64 0, .slice none 0 0], .int .i64 1]) ?_ rfl ?_
    rotate_left
    · exact ⟨rfl, eput7_below B2.out (Nat.le_refl _) _ _ _ _ _ _ _⟩
    have c3 := eput7_blk (t := 28) K2.out (.int .u64 0) (.int .i64 0) (.int .i64 0) (.slice none 0 0) (.int .u64 0) (.int .i64 0) (.slice none 0 0)
    have c30 := c3.cell 0
    have c31 := c3.cell 1
    have c32 := c3.cell 2
    have c33 := c3.cell 3
    have c34 := c3.cell 4
    have c35 := c3.cell 5
    have c36 := c3.cell 6
    change (results _ _).run _ (eput7 (u1.alloc (.cells #[.int .u64 0, .int .i64 0, .slice none 0 0] 26)) w.heap.size (.int .u64 0) (.int .i64 0) (.int .i64 0) (.slice none 0 0) (.int .u64 0) (.int .i64 0) (.slice none 0 0)) = .ok _ (eput7 (u1.alloc (.cells #[.int .u64 0, .int .i64 0, .slice none 0 0] 26)) w.heap.size (.int .u64 0) (.int .i64 0) (.int .i64 0) (.slice none 0 0) (.int .u64 0) (.int .i64 0) (.slice none 0 0))
    generalize eput7 (u1.alloc (.cells #[.int .u64 0, .int .i64 0, .slice none 0 0] 26)) w.heap.size (.int .u64 0) (.int .i64 0) (.int .i64 0) (.slice none 0 0) (.int .u64 0) (.int .i64 0) (.slice none 0 0) = W5 at c30 c31 c32 c33 c34 c35 c36
    simp [results, Try.results21, go_sem, c30, c31, c32, c33, c34, c35, c36]
set_option maxHeartbeats 3200000 in
theorem enew_ok (w : World) (S : Int) (n room R c : Nat) (votes : Int) (uS : U S) (h : shapeE n room votes R c = true) : Calls Try.prog 21 #[.int .u64 S, .int .i64 (n : Int), .int .i64 (room : Int), .int .i64 votes, .int .i64 (R : Int), .int .i64 (c : Int)] w fun e w' => ∃ x, e = .returned (.tuple #[x, .int .i64 0]) ∧ Held (fun q => w.heap.size ≤ q) (fun u => ElAt u x (elF S room votes (List.replicate n ⟨[], 0⟩) R c (fun _ _ => 0))) w' ∧ Below w.heap.size w w' := by
  have BX : Hid (Below w.heap.size w (w.alloc (.cells #[.int .u64 0, .int .i64 0, .int .i64 0, .slice none 0 0, .int .u64 0, .int .i64 0, .slice none 0 0] 28))) := bel_alloc _ _
  have KX : Hid (Blk (w.alloc (.cells #[.int .u64 0, .int .i64 0, .int .i64 0, .slice none 0 0, .int .u64 0, .int .i64 0, .slice none 0 0] 28)) w.heap.size 28 #[.int .u64 0, .int .i64 0, .int .i64 0, .slice none 0 0, .int .u64 0, .int .i64 0, .slice none 0 0]) := Blk.new _ _ _
  have RO := row_any S 1
  have SH := (shapeE_iff _ _ _ _ _).1 h
  have hf : fitsL R c 255 = true := (fitsL_iff _ _ _).2 (by omega)
  have hb : fitsE n room votes = true := (fitsE_iff _ _ _).2 (by omega)
  have n256 : n ≤ 256 := by omega
  go_enter Try.func21, Try.ntmps21
  go_wp2_with fail
  generalize w.alloc (.cells #[.int .u64 0, .int .i64 0, .int .i64 0, .slice none 0 0, .int .u64 0, .int .i64 0, .slice none 0 0] 28) = X at BX KX ⊢
  refine (RO X uS (by omega)).mono ?_
  rintro e X ⟨rfl, rfl⟩
  clear RO
  go_wp2_with fail
  refine (new_ok (rowF S 1) 255 R c X hf).mono ?_
  rintro e u1 ⟨x, rfl, hx, b1⟩
  obtain ⟨rv, rfl, hrv⟩ := hx.at
  obtain ⟨LA, lcap, _, _, rfl, _⟩ := hrv.read
  clear hrv
  have HX : Hid (Held (fun q => X.heap.size ≤ q) (fun u => RowsI u (.slice LA R lcap) R (fun _ => c) (fun _ _ => 0)) u1) := fun u e => by
    obtain ⟨v, e1, e2⟩ := hx u e
    simp at e1
    rw [e1]; exact e2
  have B1 := hidE (bel_trans BX.out b1)
  have K1 := hidE (KX.out.since b1)
  have X1 : Hid (w.heap.size < X.heap.size) := KX.out.lt
  have NG : Hid (u1.heap.size ≠ w.heap.size) := by have := K1.out.lt; show u1.heap.size ≠ w.heap.size; omega
  clear BX KX hf h hx SH
  have B2 : Hid (Below w.heap.size w (u1.alloc (.cells #[.int .u64 (rowF S 1), .int .i64 255, .slice LA R lcap] 26))) := bel_trans B1.out (bel_alloc _ _)
  have K2 : Hid (Blk (u1.alloc (.cells #[.int .u64 (rowF S 1), .int .i64 255, .slice LA R lcap] 26)) w.heap.size 28 #[.int .u64 0, .int .i64 0, .int .i64 0, .slice none 0 0, .int .u64 0, .int .i64 0, .slice none 0 0]) := K1.out.alloc _
  have L2 : Hid (Blk (u1.alloc (.cells #[.int .u64 (rowF S 1), .int .i64 255, .slice LA R lcap] 26)) u1.heap.size 26 #[.int .u64 (rowF S 1), .int .i64 255, .slice LA R lcap]) := Blk.new _ _ _
  have HY : Hid (Held (fun q => X.heap.size ≤ q) (fun u => RowsI u (.slice LA R lcap) R (fun _ => c) (fun _ _ => 0)) (u1.alloc (.cells #[.int .u64 (rowF S 1), .int .i64 255, .slice LA R lcap] 26))) := HX.out.since (bel_alloc _ _)
  have Y1 : Hid (X.heap.size ≤ (u1.alloc (.cells #[.int .u64 (rowF S 1), .int .i64 255, .slice LA R lcap] 26)).heap.size) := by have := b1.size; show X.heap.size ≤ _; simp; omega
  have NG2 : Hid (w.heap.size < (u1.alloc (.cells #[.int .u64 (rowF S 1), .int .i64 255, .slice LA R lcap] 26)).heap.size) := K2.out.lt
  clear b1
  go_wp2_with fail
  generalize (u1.alloc (.cells #[.int .u64 (rowF S 1), .int .i64 255, .slice LA R lcap] 26)) = Y at B2 K2 L2 HY Y1 NG2 ⊢
  generalize u1.heap.size = gl at L2 NG ⊢
  refine (efits_any (n : Int) (room : Int) votes Y).mono ?_
  rintro e Y ⟨rfl, rfl⟩
  rw [hb]
  clear hb B1 K1 HX
  go_wp2_with fail
  refine letterQ ?_
  intro QQ hQQ
  have Z0 : Hid (SN w Y Y.drew) := ⟨⟨Nat.le_refl _, fun _ _ _ => rfl⟩, B2.out.drew⟩
  refine wp_region_noPanic ?_
  refine wp_region_held_drew (S := fun w2 => SN w Y w2) (by kernel_rfl) Z0.out (fun hHeld => ?_)
  clear hHeld
  have KQ : Hid (∀ u, u = Y.drew → Blk u w.heap.size 28 #[.int .u64 0, .int .i64 0, .int .i64 0, .slice none 0 0, .int .u64 0, .int .i64 0, .slice none 0 0]) := fun u e => by rw [e]; exact K2.out
  generalize Y.drew = q0 at Z0 KQ ⊢
  refine wpAnyH_take (i := 0) (v := ?_) rfl (by kernel_rfl) (by kernel_rfl) (by kernel_rfl) (fun _ _ _ h => h) (Or.inl ⟨by rfl, ?_⟩) Z0.out ?_
  rotate_left
  · intro wq hSw; go_simp; first | done | with_reducible rfl
  simp only [List.getElem_toArray, List.getElem_cons_zero, Act.put, List.setIfInBounds_toArray, List.set_cons_zero, List.set_cons_succ]
  refine wpAnyH_take (i := 1) (v := ?_) rfl (by kernel_rfl) (by kernel_rfl) (by kernel_rfl) (fun _ _ _ h => h) (Or.inl ⟨by rfl, ?_⟩) Z0.out ?_
  rotate_left
  · intro wq hSw; go_simp; first | done | with_reducible rfl
  simp only [List.getElem_toArray, List.getElem_cons_zero, List.getElem_cons_succ, Act.put, List.setIfInBounds_toArray, List.set_cons_zero, List.set_cons_succ]
  refine wpAnyH_take (i := 2) (v := ?_) rfl (by kernel_rfl) (by kernel_rfl) (by kernel_rfl) (fun _ _ _ h => h) (Or.inl ⟨by rfl, ?_⟩) Z0.out ?_
  rotate_left
  · intro wq hSw; go_simp; first | done | with_reducible rfl
  simp only [List.getElem_toArray, List.getElem_cons_zero, List.getElem_cons_succ, Act.put, List.setIfInBounds_toArray, List.set_cons_zero, List.set_cons_succ]
  refine wpAnyH_take (i := 3) (v := ?_) rfl (by kernel_rfl) (by kernel_rfl) (by kernel_rfl) (fun _ _ _ h => h) (Or.inl ⟨by rfl, ?_⟩) Z0.out ?_
  rotate_left
  · intro wq hSw; go_simp; first | done | with_reducible rfl
  simp only [List.getElem_toArray, List.getElem_cons_zero, List.getElem_cons_succ, Act.put, List.setIfInBounds_toArray, List.set_cons_zero, List.set_cons_succ]
  refine wpAnyH_take (i := 5) (v := ?_) rfl (by kernel_rfl) (by kernel_rfl) (by kernel_rfl) (fun _ _ _ h => h) (Or.inl ⟨by rfl, ?_⟩) Z0.out ?_
  rotate_left
  · intro wq hSw; have cl0 := (L2.out.of (hSw.1.2 gl NG.out L2.out.lt)).cell 0; have cl1 := (L2.out.of (hSw.1.2 gl NG.out L2.out.lt)).cell 1; have cl2 := (L2.out.of (hSw.1.2 gl NG.out L2.out.lt)).cell 2; go_simp; first | done | with_reducible rfl
  simp only [List.getElem_toArray, List.getElem_cons_zero, List.getElem_cons_succ, Act.put, List.setIfInBounds_toArray, List.set_cons_zero, List.set_cons_succ]
  refine wpAnyH_ready (rs := [4]) (by kernel_rfl) (by simp) ?_
  refine AllReadyH.cons rfl (fun K0 hK0 => ?_) ?_
  rotate_left
  · exact AllReadyH.nil
  have hm := make_two (P := Try.prog) 23 56 (.agg #[.slice none 0 0, .int .i64 0]) 32 Try.underlying23 (by kernel_rfl) n (by omega) (by omega) q0
  go_simp
  have Z1 : Hid (SN w Y (q0.alloc (.cells (madeCells #[.slice none 0 0, .int .i64 0] (n * 2)) 56))) := ⟨Z0.out.1.trans (Same.below (bel_alloc _ _)), bel_trans Z0.out.2 (bel_alloc _ _)⟩
  have RK : Hid (RowK (q0.alloc (.cells (madeCells #[.slice none 0 0, .int .i64 0] (n * 2)) 56)) q0.heap.size n (fun _ => .slice none 0 0) (fun _ => 0)) := row_made0 q0 n
  have GE : Hid (Y.heap.size ≤ q0.heap.size) := Z0.out.1.1
  have K3 : Hid (Blk (q0.alloc (.cells (madeCells #[.slice none 0 0, .int .i64 0] (n * 2)) 56)) w.heap.size 28 #[.int .u64 0, .int .i64 0, .int .i64 0, .slice none 0 0, .int .u64 0, .int .i64 0, .slice none 0 0]) := (KQ.out _ rfl).alloc _
  clear hm
  generalize q0.alloc (.cells (madeCells #[.slice none 0 0, .int .i64 0] (n * 2)) 56) = q1 at Z1 RK K3 ⊢
  generalize q0.heap.size = gb at RK GE ⊢
  refine hK0.out _ _ (by exact Z1.out) (fun hHeld => ?_)
  clear hK0 K0 hHeld
  refine wpAnyH_take (i := 6) (v := ?_) rfl (by kernel_rfl) (by kernel_rfl) (by kernel_rfl) (fun _ _ _ h => h) (Or.inl ⟨by rfl, ?_⟩) Z1.out ?_
  rotate_left
  · intro wq hSw; go_simp; first | done | with_reducible rfl
  simp only [List.getElem_toArray, List.getElem_cons_zero, List.getElem_cons_succ, Act.put, List.setIfInBounds_toArray, List.set_cons_zero, List.set_cons_succ]
  refine wpAnyH_ready (rs := [7]) (by kernel_rfl) (by simp) ?_
  refine AllReadyH.cons rfl (fun K0 hK0 => ?_) ?_
  rotate_left
  · exact AllReadyH.nil
  have r0 : q1.cell? ⟨w.heap.size, 0, none⟩ = some (.int .u64 0) := K3.out.cell 0
  have r1 : q1.cell? ⟨w.heap.size, 1, none⟩ = some (.int .i64 0) := K3.out.cell 1
  have r2 : q1.cell? ⟨w.heap.size, 2, none⟩ = some (.int .i64 0) := K3.out.cell 2
  have r3 : q1.cell? ⟨w.heap.size, 3, none⟩ = some (.slice none 0 0) := K3.out.cell 3
  have r4 : q1.cell? ⟨w.heap.size, 4, none⟩ = some (.int .u64 0) := K3.out.cell 4
  have r5 : q1.cell? ⟨w.heap.size, 5, none⟩ = some (.int .i64 0) := K3.out.cell 5
  have r6 : q1.cell? ⟨w.heap.size, 6, none⟩ = some (.slice none 0 0) := K3.out.cell 6
  have z0 := K3.out.frozen 0
  have z1 := K3.out.frozen 1
  have z2 := K3.out.frozen 2
  have z3 := K3.out.frozen 3
  have z4 := K3.out.frozen 4
  have z5 := K3.out.frozen 5
  have z6 := K3.out.frozen 6
  go_simp
  clear r0 r1 r2 r3 r4 r5 r6 z0 z1 z2 z3 z4 z5 z6
  have ZF : Hid (SN w Y (eput7 q1 w.heap.size (.int .u64 S) (.int .i64 (room : Int)) (.int .i64 votes) (.slice (some ⟨gb, 0, none⟩) n n) (.int .u64 (rowF S 1)) (.int .i64 255) (.slice LA R lcap))) := ⟨Z1.out.1.trans ⟨by rw [eput7_size]; exact Nat.le_refl _, fun q d hq => eput7_heap _ _ _ _ _ _ _ _ _ q d⟩, eput7_below Z1.out.2 (Nat.le_refl _) _ _ _ _ _ _ _⟩
  refine hK0.out _ _ (by exact ZF.out) (fun hHeld => ?_)
  clear hK0 K0 hHeld
  refine wpAnyH_take (i := 8) (v := ?_) rfl (by kernel_rfl) (by kernel_rfl) (by kernel_rfl) (fun _ _ _ h => h) (Or.inl ⟨by rfl, ?_⟩) (by exact ZF.out) ?_
  rotate_left
  · intro wq hSw; go_simp; first | done | with_reducible rfl
  simp only [List.getElem_toArray, List.getElem_cons_zero, List.getElem_cons_succ, Act.put, List.setIfInBounds_toArray, List.set_cons_zero, List.set_cons_succ]
  refine wpAnyH_done (by kernel_rfl) ?_ _
  refine NoPanic.normal ?_
  refine hQQ.out _ _ ?_
  clear hQQ
  go_wp2_with fail
  refine bodyPost_ret (v := .tuple #[.agg #[.int .u64 S, .int .i64 (room : Int), .int .i64 votes, .slice (some ⟨gb, 0, none⟩) n n, .int .u64 (rowF S 1), .int .i64 255, .slice LA R lcap], .int .i64 0]) ?_ rfl ?_
  rotate_left
  · refine ⟨.agg #[.int .u64 S, .int .i64 (room : Int), .int .i64 votes, .slice (some ⟨gb, 0, none⟩) n n, .int .u64 (rowF S 1), .int .i64 255, .slice LA R lcap], rfl, ?_, ZF.out.2⟩
    have N0 := NG2.out
    have g0 : gb ≠ w.heap.size := by have := GE.out; omega
    have rk : RowK (eput7 q1 w.heap.size (.int .u64 S) (.int .i64 (room : Int)) (.int .i64 votes) (.slice (some ⟨gb, 0, none⟩) n n) (.int .u64 (rowF S 1)) (.int .i64 255) (.slice LA R lcap)) gb n (fun _ => .slice none 0 0) (fun _ => 0) := RK.out.of (eput7_heap _ _ _ _ _ _ _ _ _ gb g0)
    have hl : Held (fun q => X.heap.size ≤ q) (fun u => RowsI u (.slice LA R lcap) R (fun _ => c) (fun _ _ => 0)) (eput7 q1 w.heap.size (.int .u64 S) (.int .i64 (room : Int)) (.int .i64 votes) (.slice (some ⟨gb, 0, none⟩) n n) (.int .u64 (rowF S 1)) (.int .i64 255) (.slice LA R lcap)) := HY.out.same (ZF.out.1.mono fun q _ d => by have := X1.out; show q ≠ w.heap.size; omega)
    exact fun u e => by
      have hb : BktsE u (.slice (some ⟨gb, 0, none⟩) n n) (List.replicate n ⟨[], 0⟩) := bkts_of (rk.of (e.2 gb (by have := GE.out; omega) rk.lt)) List.length_replicate.symm (Nat.le_refl _) fun i x hx => by
        rw [List.getElem?_replicate] at hx
        split at hx
        · cases hx; exact ⟨rfl, ents_none u⟩
        · cases hx
      exact ⟨_, _, rfl, hb, hl u (e.mono fun q _ d => by have := X1.out; show w.heap.size ≤ q; omega)⟩
  have c3 := eput7_blk (t := 28) K3.out (.int .u64 S) (.int .i64 (room : Int)) (.int .i64 votes) (.slice (some ⟨gb, 0, none⟩) n n) (.int .u64 (rowF S 1)) (.int .i64 255) (.slice LA R lcap)
  have c30 := c3.cell 0
  have c31 := c3.cell 1
  have c32 := c3.cell 2
  have c33 := c3.cell 3
  have c34 := c3.cell 4
  have c35 := c3.cell 5
  have c36 := c3.cell 6
  change (results _ _).run _ (eput7 q1 w.heap.size (.int .u64 S) (.int .i64 (room : Int)) (.int .i64 votes) (.slice (some ⟨gb, 0, none⟩) n n) (.int .u64 (rowF S 1)) (.int .i64 255) (.slice LA R lcap)) = .ok _ (eput7 q1 w.heap.size (.int .u64 S) (.int .i64 (room : Int)) (.int .i64 votes) (.slice (some ⟨gb, 0, none⟩) n n) (.int .u64 (rowF S 1)) (.int .i64 255) (.slice LA R lcap))
  generalize eput7 q1 w.heap.size (.int .u64 S) (.int .i64 (room : Int)) (.int .i64 votes) (.slice (some ⟨gb, 0, none⟩) n n) (.int .u64 (rowF S 1)) (.int .i64 255) (.slice LA R lcap) = W5 at c30 c31 c32 c33 c34 c35 c36
  simp [results, Try.results21, go_sem, c30, c31, c32, c33, c34, c35, c36]
end Go.Proofs.Ytihealembikkiaa
