
/-
  put, swap and Last of layer 14 (heavy): what they do to a heap in memory.
-/
import Derived.Test.YtejdfahokbheoaaHevAt
import Derived.Test.YtejdfahokbheoaaRegKit
import Derived.BigRegion
namespace Go.Proofs.Ytejdfahokbheoaa
open Go.RowKit Hv Go.Deep
set_option linter.unusedVariables false
set_option linter.unusedSimpArgs false

theorem step_storeN {ops : Array Oper} {o : Oper} {a : Act} {w : World} {K : Act → World → Prop} {Q : Exit → Act → World → Prop} {E : Prop} (hg : o.guard = none) (m x v : Operand) (hop : o.op = Op.mapUpdate 44 m x v) (b n : Nat) (F : ByteArray → Option Int) (hm : a.eval m = .map (some b)) (h : MapN w b n F) (hn : n < maxLen) (s : ByteArray) (hx : a.eval x = .string s) (hs : s.size ≤ maxLen) (c : Int) (hv : a.eval v = .int .i64 c) (hc : (Lit.int .i64 c).wf = true)
    (hK : ∀ w', MapN w' b (putN F s n) (setF F s c) → w.mapTurned w' b → K (a.put o.dst undef) w') : if Region.wanted o (yielded ops a.tmps) = true then Oper.wp Try.prog o a w K Q else E := by
  have hw : Region.wanted o (yielded ops a.tmps) = true := by simp [Region.wanted, hg]
  rw [if_pos hw]
  obtain ⟨w', hrun, r1, r2⟩ := h.store hn s hs c hc
  unfold Oper.wp
  simp [execOp, hop, hm, hx, hv, hrun, Result.andThen]
  exact hK w' r1 r2
theorem step_dropN {ops : Array Oper} {o : Oper} {a : Act} {w : World} {K : Act → World → Prop} {Q : Exit → Act → World → Prop} {E : Prop} (hg : o.guard = none) (m x : Operand) (hop : o.op = Op.call { callee := Callee.builtin Builtin.delete, args := #[m, x], argTypes := #[44, 9] }) (b n : Nat) (F : ByteArray → Option Int) (hm : a.eval m = .map (some b)) (h : MapN w b (n + 1) F) (s : ByteArray) (hx : a.eval x = .string s) (hs : s.size ≤ maxLen) (hF : (F s).isSome = true)
    (hK : ∀ w', MapN w' b n (delF F s) → w.mapTurned w' b → K (a.put o.dst (.tuple #[])) w') : if Region.wanted o (yielded ops a.tmps) = true then Oper.wp Try.prog o a w K Q else E := by
  have hw : Region.wanted o (yielded ops a.tmps) = true := by simp [Region.wanted, hg]
  rw [if_pos hw]
  obtain ⟨w', hrun, r1, r2⟩ := h.drop s hs hF o.type
  unfold Oper.wp
  simp [execOp, hop, resolve, invoke, builtin, hm, hx, hrun, Result.andThen]
  exact hK w' r1 r2
/-- An item written. -/
theorem HevAt.set {w : World} {Bd p g b room n : Nat} {a : Nat → Itm} {F : ByteArray → Option Int} (h : HevAt w Bd p g b room n a F) (i : Nat) (x : Itm) :
    HevAt ((w.setCell ⟨g, i * 2, none⟩ (.string x.k)).setCell ⟨g, i * 2 + 1, none⟩ (.int .i64 x.c)) Bd p g b room n (upd a i x) F :=
  ⟨(h.blk.other (a := ⟨g, _, none⟩) h.pg _).other (a := ⟨g, _, none⟩) h.pg _, h.row.set i x, h.map.of ((Below.heap_setCell _ _ _ _ (Ne.symm h.gb)).trans (Below.heap_setCell _ _ _ _ (Ne.symm h.gb))), h.bp, h.bg, h.bb, h.pg, h.pb, h.gb, h.r1, h.r64, h.nr⟩
/-- The map turned. -/
theorem HevAt.turn {w w' : World} {Bd p g b room n n' : Nat} {a : Nat → Itm} {F F' : ByteArray → Option Int} (h : HevAt w Bd p g b room n a F) (t : w.mapTurned w' b) (m : MapN w' b n' F') (z : n' ≤ room) : HevAt w' Bd p g b room n' a F' :=
  ⟨turned_blk t h.blk h.pb, h.row.of (fun q e => by cases e; exact turned_other t h.gb h.gl), m, h.bp, h.bg, h.bb, h.pg, h.pb, h.gb, h.r1, h.r64, z⟩
/-- All else stands. -/
def Oth (p g b : Nat) (w w' : World) : Prop := Same (fun q => ¬ Of3 p g b q) w w'
theorem Oth.refl (p g b : Nat) (w : World) : Oth p g b w w := ⟨Nat.le_refl _, fun _ _ _ => rfl⟩
theorem Oth.trans {p g b : Nat} {u v w : World} (h : Oth p g b u v) (k : Oth p g b v w) : Oth p g b u w := Same.trans h k
theorem Oth.since {p g b : Nat} {u v : World} (h : Below u.heap.size u v) : Oth p g b u v := Same.below h
theorem Oth.turn {p g b : Nat} {u v : World} (t : u.mapTurned v b) : Oth p g b u v := ⟨by rw [turned_size t]; exact Nat.le_refl _, fun q d hq => turned_other t (fun e => d (Or.inr (Or.inr e))) hq⟩
theorem Oth.set {p g b : Nat} (u : World) (i : Nat) (v : Value) : Oth p g b u (u.setCell ⟨g, i, none⟩ v) := Same.setCell (a := ⟨g, i, none⟩) (fun h => h (Or.inr (Or.inl rfl))) v
set_option maxHeartbeats 1600000 in
theorem put_any (w : World) (Bd p g b room n : Nat) (a : Nat → Itm) (F : ByteArray → Option Int) (h : HevAt w Bd p g b room n a F) (hbd : Bd ≤ w.heap.size) (i : Nat) (s : ByteArray) (c : Int) (hi : i < room) (hs : s.size ≤ maxLen) (hz : putN F s n ≤ room) :
    Calls Try.prog 21 #[.pointer (some ⟨p, 0, none⟩), .int .i64 (i : Int), .agg #[.string s, .int .i64 c]] w fun e w' => e = .returned (.tuple #[]) ∧ HevAt w' Bd p g b room (putN F s n) (upd a i ⟨s, c⟩) (setF F s i) ∧ Below Bd w w' ∧ Oth p g b w w' := by
  have r64 := h.r64
  have HA : Hid (HevAt (w.alloc (.cells #[.string s, .int .i64 c] 30)) Bd p g b room n a F) := h.since (bel_alloc _ _)
  have KB : Hid (Blk (w.alloc (.cells #[.string s, .int .i64 c] 30)) w.heap.size 30 #[.string s, .int .i64 c]) := Blk.new _ _ _
  have BE : Hid (Below Bd w (w.alloc (.cells #[.string s, .int .i64 c] 30))) := (Below.refl _ _).alloc hbd _
  have OT : Hid (Oth p g b w (w.alloc (.cells #[.string s, .int .i64 c] 30))) := Oth.since (bel_alloc _ _)
  have NE : Hid (w.heap.size ≠ p ∧ w.heap.size ≠ g ∧ w.heap.size ≠ b) := ⟨Nat.ne_of_gt h.blk.lt, Nat.ne_of_gt h.gl, Nat.ne_of_gt h.map.lt⟩
  have HZ : Hid (putN F s n ≤ room ∧ n ≤ room) := ⟨hz, h.nr⟩
  clear h hz
  go_enter Try.func21, Try.ntmps21
  go_wp2_with fail
  generalize w.alloc (.cells #[.string s, .int .i64 c] 30) = X at HA KB BE OT ⊢
  generalize w.heap.size = q at KB NE ⊢
  have k0 := HA.out.c0
  have q0 : X.cell? ⟨q, 0, none⟩ = some (.string s) := KB.out.cell 0
  have q1 : X.cell? ⟨q, 1, none⟩ = some (.int .i64 c) := KB.out.cell 1
  have ci : X.cell? ⟨g, i * 2, none⟩ = some (.string (a i).k) := (HA.out.row.cell hi).1
  have ci1 : X.cell? ⟨g, i * 2 + 1, none⟩ = some (.int .i64 (a i).c) := (HA.out.row.cell hi).2
  have f1 : X.frozen? ⟨g, i * 2, none⟩ = false := HA.out.row.frozen (i * 2)
  have f2 : X.frozen? ⟨g, i * 2 + 1, none⟩ = false := HA.out.row.frozen (i * 2 + 1)
  have bi : (i : Int) < (room : Int) := by omega
  have bi0 : (0 : Int) ≤ (i : Int) := by omega
  have b5 : (room : Int) ≤ 64 := by omega
  go_region
  have HA1 : Hid (HevAt (((X.setCell ⟨g, i * 2, none⟩ (.string s)).setCell ⟨g, i * 2 + 1, none⟩ (.int .i64 c)).drew) Bd p g b room n (upd a i ⟨s, c⟩) F) := (HA.out.set i ⟨s, c⟩).grn (Grn.refl _).drew
  have KB1 : Hid (Blk (((X.setCell ⟨g, i * 2, none⟩ (.string s)).setCell ⟨g, i * 2 + 1, none⟩ (.int .i64 c)).drew) q 30 #[.string s, .int .i64 c]) := ((KB.out.other (a := ⟨g, _, none⟩) NE.out.2.1 _).other (a := ⟨g, _, none⟩) NE.out.2.1 _).drew
  have BE1 : Hid (Below Bd w (((X.setCell ⟨g, i * 2, none⟩ (.string s)).setCell ⟨g, i * 2 + 1, none⟩ (.int .i64 c)).drew)) := ((BE.out.setCell (p := ⟨g, _, none⟩) HA.out.bg _).setCell (p := ⟨g, _, none⟩) HA.out.bg _).drew
  have OT1 : Hid (Oth p g b w (((X.setCell ⟨g, i * 2, none⟩ (.string s)).setCell ⟨g, i * 2 + 1, none⟩ (.int .i64 c)).drew)) := ((OT.out.trans (Oth.set _ _ _)).trans (Oth.set _ _ _)).trans (Oth.since (Below.refl _ _).drew)
  clear k0 q0 q1 ci ci1 f1 f2 HA KB BE OT
  generalize ((X.setCell ⟨g, i * 2, none⟩ (.string s)).setCell ⟨g, i * 2 + 1, none⟩ (.int .i64 c)).drew = Y at HA1 KB1 BE1 OT1 ⊢
  have k1 := HA1.out.c1
  have q0 : Y.cell? ⟨q, 0, none⟩ = some (.string s) := KB1.out.cell 0
  go_wp2_with fail
  refine letterQ ?_
  intro QQ hQQ
  have Z0 : Hid (Y.drew.cell? ⟨p, 1, none⟩ = some (.map (some b)) ∧ Y.drew.cell? ⟨q, 0, none⟩ = some (.string s)) := ⟨k1, q0⟩
  have MW : Hid (MapN Y.drew b n F) := HA1.out.map.of rfl
  have HW : Hid (HevAt Y.drew Bd p g b room n (upd a i ⟨s, c⟩) F) := HA1.out.grn (Grn.refl _).drew
  have BW : Hid (Below Bd w Y.drew) := BE1.out.drew
  have OW : Hid (Oth p g b w Y.drew) := OT1.out.trans (Oth.since (Below.refl _ _).drew)
  refine wp_region_held_drew (S := fun w2 => w2.cell? ⟨p, 1, none⟩ = some (.map (some b)) ∧ w2.cell? ⟨q, 0, none⟩ = some (.string s)) (by kernel_rfl) Z0.out (fun hHeld => ?_)
  clear hHeld
  generalize Y.drew = y0 at Z0 MW HW BW OW ⊢
  refine wpAnyH_take (i := 0) (v := ?_) rfl (by kernel_rfl) (by kernel_rfl) (by kernel_rfl) (fun _ _ _ h => h) (Or.inl ⟨by rfl, ?_⟩) Z0.out ?_
  rotate_left
  · intro wq hSw; go_simp; first | done | with_reducible rfl
  simp only [List.getElem_toArray, List.getElem_cons_zero, Act.put, List.setIfInBounds_toArray, List.set_cons_zero, List.set_cons_succ]
  refine wpAnyH_take (i := 1) (v := ?_) rfl (by kernel_rfl) (by kernel_rfl) (by kernel_rfl) (fun _ _ _ h => h) (Or.inl ⟨by rfl, ?_⟩) Z0.out ?_
  rotate_left
  · intro wq hSw; go_simp; first | done | with_reducible rfl
  simp only [List.getElem_toArray, List.getElem_cons_zero, List.getElem_cons_succ, Act.put, List.setIfInBounds_toArray, List.set_cons_zero, List.set_cons_succ]
  refine wpAnyH_take (i := 2) (v := ?_) rfl (by kernel_rfl) (by kernel_rfl) (by kernel_rfl) (fun _ _ _ h => h) (Or.inl ⟨by rfl, ?_⟩) Z0.out ?_
  rotate_left
  · intro wq hSw; go_simp; first | done | with_reducible rfl
  simp only [List.getElem_toArray, List.getElem_cons_zero, List.getElem_cons_succ, Act.put, List.setIfInBounds_toArray, List.set_cons_zero, List.set_cons_succ]
  refine wpAnyH_take (i := 3) (v := ?_) rfl (by kernel_rfl) (by kernel_rfl) (by kernel_rfl) (fun _ _ _ h => h) (Or.inl ⟨by rfl, ?_⟩) Z0.out ?_
  rotate_left
  · intro wq hSw; have cl0 := hSw.1; go_simp; first | done | with_reducible rfl
  simp only [List.getElem_toArray, List.getElem_cons_zero, List.getElem_cons_succ, Act.put, List.setIfInBounds_toArray, List.set_cons_zero, List.set_cons_succ]
  refine wpAnyH_take (i := 4) (v := ?_) rfl (by kernel_rfl) (by kernel_rfl) (by kernel_rfl) (fun _ _ _ h => h) (Or.inl ⟨by rfl, ?_⟩) Z0.out ?_
  rotate_left
  · intro wq hSw; go_simp; first | done | with_reducible rfl
  simp only [List.getElem_toArray, List.getElem_cons_zero, List.getElem_cons_succ, Act.put, List.setIfInBounds_toArray, List.set_cons_zero, List.set_cons_succ]
  refine wpAnyH_take (i := 5) (v := ?_) rfl (by kernel_rfl) (by kernel_rfl) (by kernel_rfl) (fun _ _ _ h => h) (Or.inl ⟨by rfl, ?_⟩) Z0.out ?_
  rotate_left
  · intro wq hSw; have cl1 := hSw.2; go_simp; first | done | with_reducible rfl
  simp only [List.getElem_toArray, List.getElem_cons_zero, List.getElem_cons_succ, Act.put, List.setIfInBounds_toArray, List.set_cons_zero, List.set_cons_succ]
  refine wpAnyH_take (i := 6) (v := ?_) rfl (by kernel_rfl) (by kernel_rfl) (by kernel_rfl) (fun _ _ _ h => h) (Or.inl ⟨by rfl, ?_⟩) Z0.out ?_
  rotate_left
  · intro wq hSw; go_simp; first | done | with_reducible rfl
  simp only [List.getElem_toArray, List.getElem_cons_zero, List.getElem_cons_succ, Act.put, List.setIfInBounds_toArray, List.set_cons_zero, List.set_cons_succ]
  refine wpAnyH_ready (rs := [7]) (by kernel_rfl) (by simp) ?_
  refine AllReadyH.cons rfl (fun K0 hK0 => ?_) ?_
  rotate_left
  · exact AllReadyH.nil
  refine step_storeN rfl (.tmp 16) (.tmp 18) (.tmp 19) rfl b n F (by simp [Act.eval]) MW.out (by unfold maxLen; have := HZ.out.2; omega) s (by simp [Act.eval]) hs (i : Int) (by simp [Act.eval]) (WalkArith.wf_i64 (by omega)) ?_
  intro y1 M1 T1
  have Z1 : Hid (y1.cell? ⟨p, 1, none⟩ = some (.map (some b)) ∧ y1.cell? ⟨q, 0, none⟩ = some (.string s)) := ⟨turned_cell T1 Z0.out.1 HA1.out.pb, turned_cell T1 Z0.out.2 NE.out.2.2⟩
  refine hK0.out _ _ Z1.out (fun hHeld => ?_)
  clear hK0 K0 hHeld
  refine wpAnyH_done (by kernel_rfl) ?_ _
  refine NoPanic.normal ?_
  refine hQQ.out _ _ ?_
  clear hQQ
  have HE : Hid (HevAt y1 Bd p g b room (putN F s n) (upd a i ⟨s, c⟩) (setF F s i)) := HW.out.turn T1 M1 HZ.out.1
  have BX : Hid (Below Bd w y1) := turned_below BW.out T1 HA1.out.bb (by have := BW.out.size; omega)
  have OX : Hid (Oth p g b w y1) := OW.out.trans (Oth.turn T1)
  clear M1 T1 Z0 Z1 MW HW BW OW HA1 KB1 BE1 OT1 k1 q0
  go_wp2_with fail
  go_returns
  exact ⟨rfl, HE.out, BX.out, OX.out⟩
theorem putN_at {F : ByteArray → Option Int} {s : ByteArray} {n : Nat} (h : (F s).isSome = true) : putN F s n = n := if_pos h
theorem setF_some {F : ByteArray → Option Int} {s t : ByteArray} {x : Int} (h : (F t).isSome = true) : (setF F s x t).isSome = true := by
  unfold setF
  by_cases e : t = s
  · rw [if_pos e]; rfl
  · rw [if_neg e]; exact h
theorem plF_some {n : Nat} {a : Nat → Itm} {F : ByteArray → Option Int} (h : PlF n a F) {i : Nat} (hi : i < n) : (F (a i).k).isSome = true := by rw [h.1 i hi]; rfl
theorem upd_swap2 (a : Nat → Itm) (i j : Nat) : upd (upd a i ⟨(a j).k, (a j).c⟩) j ⟨(a i).k, (a i).c⟩ = swp a i j := upd_swap a i j
set_option maxHeartbeats 1600000 in
theorem swap_any (w : World) (Bd p g b room n : Nat) (a : Nat → Itm) (F : ByteArray → Option Int) (h : HevAt w Bd p g b room n a F) (hbd : Bd ≤ w.heap.size) (hp : PlF n a F) (hk : ∀ i, i < n → (a i).k.size ≤ maxLen) (i j : Nat) (hi : i < n) (hj : j < n) :
    Calls Try.prog 32 #[.pointer (some ⟨p, 0, none⟩), .int .i64 (i : Int), .int .i64 (j : Int)] w fun e w' => e = .returned (.tuple #[]) ∧ HevAt w' Bd p g b room n (swp a i j) (setF (setF F (a j).k i) (a i).k j) ∧ Below Bd w w' ∧ Oth p g b w w' := by
  have nr := h.nr
  have r64 := h.r64
  have HA : Hid (HevAt w Bd p g b room n a F) := h
  have E1 : Hid (putN F (a j).k n = n) := putN_at (plF_some hp hj)
  have E2 : Hid (putN (setF F (a j).k i) (a i).k n = n) := putN_at (setF_some (plF_some hp hi))
  obtain ⟨si, hsi⟩ : ∃ s, s = (a i).k := ⟨_, rfl⟩
  obtain ⟨ci, hci⟩ : ∃ c, c = (a i).c := ⟨_, rfl⟩
  obtain ⟨sj, hsj⟩ : ∃ s, s = (a j).k := ⟨_, rfl⟩
  obtain ⟨cj, hcj⟩ : ∃ c, c = (a j).c := ⟨_, rfl⟩
  have zi : si.size ≤ maxLen := by rw [hsi]; exact hk i hi
  have zj : sj.size ≤ maxLen := by rw [hsj]; exact hk j hj
  have US : Hid (upd (upd a i ⟨sj, cj⟩) j ⟨si, ci⟩ = swp a i j) := by rw [hsi, hci, hsj, hcj]; exact upd_swap2 a i j
  rw [← hsj] at E1 E2
  rw [← hsi] at E2
  have k0 := h.c0
  have i0 : w.cell? ⟨g, i * 2, none⟩ = some (.string si) := by rw [hsi]; exact (h.row.cell (show i < room by omega)).1
  have i1 : w.cell? ⟨g, i * 2 + 1, none⟩ = some (.int .i64 ci) := by rw [hci]; exact (h.row.cell (show i < room by omega)).2
  have j0 : w.cell? ⟨g, j * 2, none⟩ = some (.string sj) := by rw [hsj]; exact (h.row.cell (show j < room by omega)).1
  have j1 : w.cell? ⟨g, j * 2 + 1, none⟩ = some (.int .i64 cj) := by rw [hcj]; exact (h.row.cell (show j < room by omega)).2
  rw [← hsi, ← hsj]
  have k0a : ∀ o, (w.alloc o).cell? _ = _ := fun o => keep_of_below (bel_alloc w o) _ _ k0
  have k0b : ∀ o o', ((w.alloc o).alloc o').cell? _ = _ := fun o o' => keep_of_below (bel_alloc _ o') _ _ (k0a o)
  have i0a : ∀ o, (w.alloc o).cell? _ = _ := fun o => keep_of_below (bel_alloc w o) _ _ i0
  have i0b : ∀ o o', ((w.alloc o).alloc o').cell? _ = _ := fun o o' => keep_of_below (bel_alloc _ o') _ _ (i0a o)
  have i1a : ∀ o, (w.alloc o).cell? _ = _ := fun o => keep_of_below (bel_alloc w o) _ _ i1
  have i1b : ∀ o o', ((w.alloc o).alloc o').cell? _ = _ := fun o o' => keep_of_below (bel_alloc _ o') _ _ (i1a o)
  have j0a : ∀ o, (w.alloc o).cell? _ = _ := fun o => keep_of_below (bel_alloc w o) _ _ j0
  have j0b : ∀ o o', ((w.alloc o).alloc o').cell? _ = _ := fun o o' => keep_of_below (bel_alloc _ o') _ _ (j0a o)
  have j1a : ∀ o, (w.alloc o).cell? _ = _ := fun o => keep_of_below (bel_alloc w o) _ _ j1
  have j1b : ∀ o o', ((w.alloc o).alloc o').cell? _ = _ := fun o o' => keep_of_below (bel_alloc _ o') _ _ (j1a o)
  have bi : (i : Int) < (room : Int) := by omega
  have bi0 : (0 : Int) ≤ (i : Int) := by omega
  have bj : (j : Int) < (room : Int) := by omega
  have bj0 : (0 : Int) ≤ (j : Int) := by omega
  have b5 : (room : Int) ≤ 64 := by omega
  clear h hp hk hsi hci hsj hcj
  go_enter Try.func32, Try.ntmps32
  go_wp2_with fail
  go_region
  · have HS : Hid (Blk (((w.alloc (.cells #[.string si, .int .i64 ci] 30)).alloc (.cells #[.string sj, .int .i64 cj] 30)).drew) (w.heap.size) 30 #[.string si, .int .i64 ci]) := ((Blk.new w 30 #[.string si, .int .i64 ci]).alloc _).drew
    have HT : Hid (Blk (((w.alloc (.cells #[.string si, .int .i64 ci] 30)).alloc (.cells #[.string sj, .int .i64 cj] 30)).drew) (w.heap.size + 1) 30 #[.string sj, .int .i64 cj]) := show Blk _ _ _ _ from by
      have h := Blk.new (w.alloc (.cells #[.string si, .int .i64 ci] 30)) 30 #[.string sj, .int .i64 cj]
      rw [show (w.alloc (.cells #[.string si, .int .i64 ci] 30)).heap.size = w.heap.size + 1 by simp] at h
      exact h.drew
    have HA1 : Hid (HevAt (((w.alloc (.cells #[.string si, .int .i64 ci] 30)).alloc (.cells #[.string sj, .int .i64 cj] 30)).drew) Bd p g b room n a F) := HA.out.grn (((Grn.refl w).alloc _).alloc _).drew
    have BE1 : Hid (Below Bd w (((w.alloc (.cells #[.string si, .int .i64 ci] 30)).alloc (.cells #[.string sj, .int .i64 cj] 30)).drew)) := (((Below.refl _ _).alloc hbd _).alloc (by simp; omega) _).drew
    have OT1 : Hid (Oth p g b w (((w.alloc (.cells #[.string si, .int .i64 ci] 30)).alloc (.cells #[.string sj, .int .i64 cj] 30)).drew)) := Oth.since (((Grn.refl w).alloc _).alloc _).drew.below
    have NS : Hid (¬ Of3 p g b (w.heap.size)) := fun h => by have h1 := HA.out.blk.lt; have h2 := HA.out.gl; have h3 := HA.out.map.lt; rcases h with h | h | h <;> omega
    clear k0 i0 i1 j0 j1 k0a k0b i0a i0b i1a i1b j0a j0b j1a j1b HA
    generalize ((w.alloc (.cells #[.string si, .int .i64 ci] 30)).alloc (.cells #[.string sj, .int .i64 cj] 30)).drew = u1 at HS HT HA1 BE1 OT1 ⊢
    have s0 : u1.cell? ⟨w.heap.size, 0, none⟩ = some (.string si) := HS.out.cell 0
    have s1 : u1.cell? ⟨w.heap.size, 1, none⟩ = some (.int .i64 ci) := HS.out.cell 1
    have t0 : u1.cell? ⟨w.heap.size + 1, 0, none⟩ = some (.string sj) := HT.out.cell 0
    have t1 : u1.cell? ⟨w.heap.size + 1, 1, none⟩ = some (.int .i64 cj) := HT.out.cell 1
    go_wp2_with fail
    refine (put_any u1 Bd p g b room n a F HA1.out (by have := BE1.out.size; omega) i sj cj (by omega) zj (by rw [E1.out]; exact nr)).mono ?_
    rintro e u2 ⟨rfl, h2, b2, o2⟩
    rw [E1.out] at h2
    have HA2 : Hid (HevAt u2 Bd p g b room n (upd a i ⟨sj, cj⟩) (setF F sj i)) := h2
    have HS2 : Hid (Blk u2 (w.heap.size) 30 #[.string si, .int .i64 ci]) := HS.out.of (o2.2 _ NS.out HS.out.lt)
    have BE2 : Hid (Below Bd w u2) := BE1.out.trans b2
    have OT2 : Hid (Oth p g b w u2) := OT1.out.trans o2
    clear h2 b2 o2 s0 s1 t0 t1 HS HT HA1 BE1 OT1
    have s0 : u2.cell? ⟨w.heap.size, 0, none⟩ = some (.string si) := HS2.out.cell 0
    have s1 : u2.cell? ⟨w.heap.size, 1, none⟩ = some (.int .i64 ci) := HS2.out.cell 1
    go_wp2_with fail
    refine (put_any u2 Bd p g b room n _ _ HA2.out (by have := BE2.out.size; omega) j si ci (by omega) zi (by rw [E2.out]; exact nr)).mono ?_
    rintro e u3 ⟨rfl, h3, b3, o3⟩
    rw [E2.out, US.out] at h3
    have HA3 : Hid (HevAt u3 Bd p g b room n (swp a i j) (setF (setF F sj i) si j)) := h3
    have BE3 : Hid (Below Bd w u3) := BE2.out.trans b3
    have OT3 : Hid (Oth p g b w u3) := OT2.out.trans o3
    clear h3 b3 o3 s0 s1 HS2 HA2 BE2 OT2
    go_wp2_with fail
    go_returns
    exact ⟨rfl, HA3.out, BE3.out, OT3.out⟩
  · have HS : Hid (Blk (((w.alloc (.cells #[.string sj, .int .i64 cj] 30)).alloc (.cells #[.string si, .int .i64 ci] 30)).drew) (w.heap.size + 1) 30 #[.string si, .int .i64 ci]) := show Blk _ _ _ _ from by
      have h := Blk.new (w.alloc (.cells #[.string sj, .int .i64 cj] 30)) 30 #[.string si, .int .i64 ci]
      rw [show (w.alloc (.cells #[.string sj, .int .i64 cj] 30)).heap.size = w.heap.size + 1 by simp] at h
      exact h.drew
    have HT : Hid (Blk (((w.alloc (.cells #[.string sj, .int .i64 cj] 30)).alloc (.cells #[.string si, .int .i64 ci] 30)).drew) (w.heap.size) 30 #[.string sj, .int .i64 cj]) := ((Blk.new w 30 #[.string sj, .int .i64 cj]).alloc _).drew
    have HA1 : Hid (HevAt (((w.alloc (.cells #[.string sj, .int .i64 cj] 30)).alloc (.cells #[.string si, .int .i64 ci] 30)).drew) Bd p g b room n a F) := HA.out.grn (((Grn.refl w).alloc _).alloc _).drew
    have BE1 : Hid (Below Bd w (((w.alloc (.cells #[.string sj, .int .i64 cj] 30)).alloc (.cells #[.string si, .int .i64 ci] 30)).drew)) := (((Below.refl _ _).alloc hbd _).alloc (by simp; omega) _).drew
    have OT1 : Hid (Oth p g b w (((w.alloc (.cells #[.string sj, .int .i64 cj] 30)).alloc (.cells #[.string si, .int .i64 ci] 30)).drew)) := Oth.since (((Grn.refl w).alloc _).alloc _).drew.below
    have NS : Hid (¬ Of3 p g b (w.heap.size + 1)) := fun h => by have h1 := HA.out.blk.lt; have h2 := HA.out.gl; have h3 := HA.out.map.lt; rcases h with h | h | h <;> omega
    clear k0 i0 i1 j0 j1 k0a k0b i0a i0b i1a i1b j0a j0b j1a j1b HA
    generalize ((w.alloc (.cells #[.string sj, .int .i64 cj] 30)).alloc (.cells #[.string si, .int .i64 ci] 30)).drew = u1 at HS HT HA1 BE1 OT1 ⊢
    have s0 : u1.cell? ⟨w.heap.size + 1, 0, none⟩ = some (.string si) := HS.out.cell 0
    have s1 : u1.cell? ⟨w.heap.size + 1, 1, none⟩ = some (.int .i64 ci) := HS.out.cell 1
    have t0 : u1.cell? ⟨w.heap.size, 0, none⟩ = some (.string sj) := HT.out.cell 0
    have t1 : u1.cell? ⟨w.heap.size, 1, none⟩ = some (.int .i64 cj) := HT.out.cell 1
    go_wp2_with fail
    refine (put_any u1 Bd p g b room n a F HA1.out (by have := BE1.out.size; omega) i sj cj (by omega) zj (by rw [E1.out]; exact nr)).mono ?_
    rintro e u2 ⟨rfl, h2, b2, o2⟩
    rw [E1.out] at h2
    have HA2 : Hid (HevAt u2 Bd p g b room n (upd a i ⟨sj, cj⟩) (setF F sj i)) := h2
    have HS2 : Hid (Blk u2 (w.heap.size + 1) 30 #[.string si, .int .i64 ci]) := HS.out.of (o2.2 _ NS.out HS.out.lt)
    have BE2 : Hid (Below Bd w u2) := BE1.out.trans b2
    have OT2 : Hid (Oth p g b w u2) := OT1.out.trans o2
    clear h2 b2 o2 s0 s1 t0 t1 HS HT HA1 BE1 OT1
    have s0 : u2.cell? ⟨w.heap.size + 1, 0, none⟩ = some (.string si) := HS2.out.cell 0
    have s1 : u2.cell? ⟨w.heap.size + 1, 1, none⟩ = some (.int .i64 ci) := HS2.out.cell 1
    go_wp2_with fail
    refine (put_any u2 Bd p g b room n _ _ HA2.out (by have := BE2.out.size; omega) j si ci (by omega) zi (by rw [E2.out]; exact nr)).mono ?_
    rintro e u3 ⟨rfl, h3, b3, o3⟩
    rw [E2.out, US.out] at h3
    have HA3 : Hid (HevAt u3 Bd p g b room n (swp a i j) (setF (setF F sj i) si j)) := h3
    have BE3 : Hid (Below Bd w u3) := BE2.out.trans b3
    have OT3 : Hid (Oth p g b w u3) := OT2.out.trans o3
    clear h3 b3 o3 s0 s1 HS2 HA2 BE2 OT2
    go_wp2_with fail
    go_returns
    exact ⟨rfl, HA3.out, BE3.out, OT3.out⟩
end Go.Proofs.Ytejdfahokbheoaa
