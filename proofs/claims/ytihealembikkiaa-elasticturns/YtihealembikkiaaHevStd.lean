
/-
  standing of layer 14 (heavy): two items compared; worlds that are another one but for draws and for blocks laid behind.
-/
import Derived.Test.YtihealembikkiaaHevCmp
import Derived.Test.YtihealembikkiaaRegKit
import Derived.Shelf.SlSortCmp.QuietGrown
namespace Go.Proofs.Ytihealembikkiaa.L14
open Go.RowKit Hv Go.Deep
set_option linter.unusedVariables false
set_option maxRecDepth 20000

/-- So many draws, blocks laid behind: nothing else. -/
def Grn (w w' : World) : Prop := ∃ p : GrownBy, w' = Go.Sort.grow (w.drewN p.n) p.os
theorem Grn.refl (w : World) : Grn w w := ⟨⟨0, #[]⟩, by rw [Go.Sort.grow_empty]; rfl⟩
theorem Grn.trans {a b c : World} (h : Grn a b) (k : Grn b c) : Grn a c := by
  obtain ⟨⟨n, os⟩, rfl⟩ := h
  obtain ⟨⟨m, os'⟩, rfl⟩ := k
  exact ⟨⟨n + m, os ++ os'⟩, by show Go.Sort.grow (Go.Sort.grow ((a.drewN n).drewN m) os) os' = _; rw [Go.Sort.grow_grow]; rw [World.drewN_drewN]⟩
theorem Grn.drew {a b : World} (h : Grn a b) : Grn a b.drew := h.trans ⟨⟨1, #[]⟩, by rw [Go.Sort.grow_empty]; rfl⟩
theorem Grn.alloc {a b : World} (h : Grn a b) (x : Obj) : Grn a (b.alloc x) := h.trans ⟨⟨0, #[x]⟩, by rw [Go.Sort.alloc_eq_grow]; rfl⟩
theorem Grn.below {a b : World} (h : Grn a b) : Below a.heap.size a b := by
  obtain ⟨⟨n, os⟩, rfl⟩ := h
  exact ⟨rfl, rfl, rfl, by simp [Go.Sort.grow, World.drewN], fun k hk => by
    show (a.heap ++ os)[k]? = a.heap[k]?
    rw [Array.getElem?_append_left hk]⟩
theorem Grn.cell {a b : World} (h : Grn a b) {x : Addr} {v : Value} (e : a.cell? x = some v) : b.cell? x = some v := keep_of_below h.below _ _ e
theorem grn_all {a : World} {x : Addr} {v : Value} (e : a.cell? x = some v) (n : Nat) (os : Array Obj) : (Go.Sort.grow (a.drewN n) os).cell? x = some v := Grn.cell ⟨⟨n, os⟩, rfl⟩ e
theorem Grn.ex {a b : World} (h : Grn a b) : ∃ q os', b = Go.Sort.grow (a.drewN q) os' := by
  obtain ⟨⟨n, os⟩, e⟩ := h
  exact ⟨n, os, e⟩
set_option maxHeartbeats 1600000 in
theorem standing_any (w : World) (s : ByteArray) (c : Int) (t : ByteArray) (d : Int) : Calls Try.prog 35 #[.agg #[.string s, .int .i64 c], .agg #[.string t, .int .i64 d]] w fun e w' => e = .returned (.int .i64 (stdF ⟨s, c⟩ ⟨t, d⟩)) ∧ Grn w w' := by
  obtain ⟨r1, h1⟩ : ∃ r, r = cmpI d c := ⟨_, rfl⟩
  obtain ⟨r2, h2⟩ : ∃ r, r = cmpS s t := ⟨_, rfl⟩
  obtain ⟨r3, h3⟩ : ∃ r, r = orF r1 r2 := ⟨_, rfl⟩
  have e3 : stdF ⟨s, c⟩ ⟨t, d⟩ = r3 := by rw [h3, h1, h2]; rfl
  rw [e3]
  have C1 : Hid (∀ w, Calls Try.prog 63 #[.int .i64 d, .int .i64 c] w fun e w' => e = .returned (.int .i64 r1) ∧ w' = w) := fun w => by rw [h1]; exact ccmpI_any w d c
  have C2 : Hid (∀ w, Calls Try.prog 64 #[.string s, .string t] w fun e w' => e = .returned (.int .i64 r2) ∧ w' = w) := fun w => by rw [h2]; exact ccmpS_any w s t
  have C3 : Hid (∀ w b c, w.cell? ⟨b, 0, none⟩ = some (.int .i64 r1) → w.cell? ⟨b, 1, none⟩ = some (.int .i64 r2) → Calls Try.prog 62 #[.slice (some ⟨b, 0, none⟩) 2 c] w fun e w' => e = .returned (.int .i64 r3) ∧ w' = w) := fun w b c k0 k1 => by rw [h3]; exact cor_two w b c r1 r2 k0 k1
  clear h1 h2 h3 e3
  have B1 : Hid (Blk ((w.alloc (.cells #[.string s, .int .i64 c] 68)).alloc (.cells #[.string t, .int .i64 d] 68)) w.heap.size 68 #[.string s, .int .i64 c]) := (Blk.new _ _ _).alloc _
  have B2 : Hid (Blk ((w.alloc (.cells #[.string s, .int .i64 c] 68)).alloc (.cells #[.string t, .int .i64 d] 68)) (w.heap.size + 1) 68 #[.string t, .int .i64 d]) := by
    have h := Blk.new (w.alloc (.cells #[.string s, .int .i64 c] 68)) 68 #[.string t, .int .i64 d]
    rw [show (w.alloc (.cells #[.string s, .int .i64 c] 68)).heap.size = w.heap.size + 1 by simp] at h
    exact h
  have G1 : Hid (Grn w ((w.alloc (.cells #[.string s, .int .i64 c] 68)).alloc (.cells #[.string t, .int .i64 d] 68))) := ((Grn.refl w).alloc _).alloc _
  go_enter Try.func35, Try.ntmps35
  go_wp2_with fail
  generalize ((w.alloc (.cells #[.string s, .int .i64 c] 68)).alloc (.cells #[.string t, .int .i64 d] 68)) = X at B1 B2 G1 ⊢
  have k0 : X.cell? ⟨w.heap.size, 0, none⟩ = some (.string s) := B1.out.cell 0
  have k1 : X.cell? ⟨w.heap.size, 1, none⟩ = some (.int .i64 c) := B1.out.cell 1
  have k2 : X.cell? ⟨w.heap.size + 1, 0, none⟩ = some (.string t) := B2.out.cell 0
  have k3 : X.cell? ⟨w.heap.size + 1, 1, none⟩ = some (.int .i64 d) := B2.out.cell 1
  have K0 : Hid (∀ u, Grn X u → u.cell? ⟨w.heap.size, 0, none⟩ = some (.string s)) := fun u h => h.cell k0
  have K1 : Hid (∀ u, Grn X u → u.cell? ⟨w.heap.size, 1, none⟩ = some (.int .i64 c)) := fun u h => h.cell k1
  have K2 : Hid (∀ u, Grn X u → u.cell? ⟨w.heap.size + 1, 0, none⟩ = some (.string t)) := fun u h => h.cell k2
  have K3 : Hid (∀ u, Grn X u → u.cell? ⟨w.heap.size + 1, 1, none⟩ = some (.int .i64 d)) := fun u h => h.cell k3
  clear k0 k1 k2 k3 B1 B2
  refine letterQ ?_
  intro QQ hQQ
  have Z0 : Hid (Grn X X.drew) := (Grn.refl X).drew
  refine wp_region_held_drew (S := fun w2 => Grn X w2) (by kernel_rfl) Z0.out (fun hHeld => ?_)
  clear hHeld
  generalize X.drew = q0 at Z0 ⊢
  refine wpAnyH_take (i := 0) (v := ?_) rfl (by kernel_rfl) (by kernel_rfl) (by kernel_rfl) (fun _ _ _ h => h) (Or.inl ⟨by rfl, ?_⟩) Z0.out ?_
  rotate_left
  · intro wq hSw; go_simp; first | done | with_reducible rfl
  simp only [List.getElem_toArray, List.getElem_cons_zero, Act.put, List.setIfInBounds_toArray, List.set_cons_zero, List.set_cons_succ]
  refine wpAnyH_take (i := 1) (v := ?_) rfl (by kernel_rfl) (by kernel_rfl) (by kernel_rfl) (fun _ _ _ h => h) (Or.inl ⟨by rfl, ?_⟩) Z0.out ?_
  rotate_left
  · intro wq hSw; have cl0 := K3.out _ hSw; go_simp; first | done | with_reducible rfl
  simp only [List.getElem_toArray, List.getElem_cons_zero, List.getElem_cons_succ, Act.put, List.setIfInBounds_toArray, List.set_cons_zero, List.set_cons_succ]
  refine wpAnyH_take (i := 2) (v := ?_) rfl (by kernel_rfl) (by kernel_rfl) (by kernel_rfl) (fun _ _ _ h => h) (Or.inl ⟨by rfl, ?_⟩) Z0.out ?_
  rotate_left
  · intro wq hSw; go_simp; first | done | with_reducible rfl
  simp only [List.getElem_toArray, List.getElem_cons_zero, List.getElem_cons_succ, Act.put, List.setIfInBounds_toArray, List.set_cons_zero, List.set_cons_succ]
  refine wpAnyH_take (i := 3) (v := ?_) rfl (by kernel_rfl) (by kernel_rfl) (by kernel_rfl) (fun _ _ _ h => h) (Or.inl ⟨by rfl, ?_⟩) Z0.out ?_
  rotate_left
  · intro wq hSw; have cl0 := K1.out _ hSw; go_simp; first | done | with_reducible rfl
  simp only [List.getElem_toArray, List.getElem_cons_zero, List.getElem_cons_succ, Act.put, List.setIfInBounds_toArray, List.set_cons_zero, List.set_cons_succ]
  refine wpAnyH_take (i := 5) (v := ?_) rfl (by kernel_rfl) (by kernel_rfl) (by kernel_rfl) (fun _ _ _ h => h) (Or.inl ⟨by rfl, ?_⟩) Z0.out ?_
  rotate_left
  · intro wq hSw; go_simp; first | done | with_reducible rfl
  simp only [List.getElem_toArray, List.getElem_cons_zero, List.getElem_cons_succ, Act.put, List.setIfInBounds_toArray, List.set_cons_zero, List.set_cons_succ]
  refine wpAnyH_take (i := 6) (v := ?_) rfl (by kernel_rfl) (by kernel_rfl) (by kernel_rfl) (fun _ _ _ h => h) (Or.inl ⟨by rfl, ?_⟩) Z0.out ?_
  rotate_left
  · intro wq hSw; have cl0 := K0.out _ hSw; go_simp; first | done | with_reducible rfl
  simp only [List.getElem_toArray, List.getElem_cons_zero, List.getElem_cons_succ, Act.put, List.setIfInBounds_toArray, List.set_cons_zero, List.set_cons_succ]
  refine wpAnyH_take (i := 7) (v := ?_) rfl (by kernel_rfl) (by kernel_rfl) (by kernel_rfl) (fun _ _ _ h => h) (Or.inl ⟨by rfl, ?_⟩) Z0.out ?_
  rotate_left
  · intro wq hSw; go_simp; first | done | with_reducible rfl
  simp only [List.getElem_toArray, List.getElem_cons_zero, List.getElem_cons_succ, Act.put, List.setIfInBounds_toArray, List.set_cons_zero, List.set_cons_succ]
  refine wpAnyH_take (i := 8) (v := ?_) rfl (by kernel_rfl) (by kernel_rfl) (by kernel_rfl) (fun _ _ _ h => h) (Or.inl ⟨by rfl, ?_⟩) Z0.out ?_
  rotate_left
  · intro wq hSw; have cl0 := K2.out _ hSw; go_simp; first | done | with_reducible rfl
  simp only [List.getElem_toArray, List.getElem_cons_zero, List.getElem_cons_succ, Act.put, List.setIfInBounds_toArray, List.set_cons_zero, List.set_cons_succ]
  refine wpAnyH_ready (rs := [4]) (by kernel_rfl) (by simp) ?_
  refine AllReadyH.cons rfl (fun K0 hK0 => ?_) ?_
  rotate_left
  · exact AllReadyH.nil
  refine step_func 63 #[.int .i64 d, .int .i64 c] (by rfl) rfl (by simp [Act.eval]) (fun _ _ => by kernel_rfl) ?_
  refine (C1.out _).mono ?_
  rintro e u1 ⟨rfl, rfl⟩
  refine ⟨_, rfl, ?_⟩
  refine hK0.out _ _ (by exact Z0.out) (fun hHeld => ?_)
  clear hK0 K0 hHeld
  simp only [Act.put, List.setIfInBounds_toArray]
  refine wpAnyH_ready (rs := [9]) (by kernel_rfl) (by simp) ?_
  refine AllReadyH.cons rfl (fun K0 hK0 => ?_) ?_
  rotate_left
  · exact AllReadyH.nil
  refine step_func 64 #[.string s, .string t] (by rfl) rfl (by simp [Act.eval]) (fun _ _ => by kernel_rfl) ?_
  refine (C2.out _).mono ?_
  rintro e u2 ⟨rfl, rfl⟩
  refine ⟨_, rfl, ?_⟩
  refine hK0.out _ _ (by exact Z0.out) (fun hHeld => ?_)
  clear hK0 K0 hHeld
  simp only [Act.put]
  refine wpAnyH_ready (rs := [10]) (by kernel_rfl) (by simp) ?_
  refine AllReadyH.cons rfl (fun K0 hK0 => ?_) ?_
  rotate_left
  · exact AllReadyH.nil
  have Z1 : Hid (Grn X (u2.alloc (.cells #[.int .i64 r1, .int .i64 r2] 3))) := Z0.out.alloc _
  have N1 : Hid (Blk (u2.alloc (.cells #[.int .i64 r1, .int .i64 r2] 3)) u2.heap.size 3 #[.int .i64 r1, .int .i64 r2]) := Blk.new _ _ _
  go_simp
  refine hK0.out _ _ (by exact Z1.out) (fun hHeld => ?_)
  clear hK0 K0 hHeld
  generalize u2.alloc (.cells #[.int .i64 r1, .int .i64 r2] 3) = q1 at Z1 N1 ⊢
  refine wpAnyH_ready (rs := [11]) (by kernel_rfl) (by simp) ?_
  refine AllReadyH.cons rfl (fun K0 hK0 => ?_) ?_
  rotate_left
  · exact AllReadyH.nil
  refine step_func 62 #[.slice (some ⟨u2.heap.size, 0, none⟩) 2 2] (by rfl) rfl (by simp [Act.eval]) (fun _ _ => by kernel_rfl) ?_
  refine (C3.out _ _ _ (N1.out.cell 0) (N1.out.cell 1)).mono ?_
  rintro e u3 ⟨rfl, rfl⟩
  refine ⟨_, rfl, ?_⟩
  refine hK0.out _ _ (by exact Z1.out) (fun hHeld => ?_)
  clear hK0 K0 hHeld
  simp only [Act.put, List.setIfInBounds_toArray]
  refine wpAnyH_take (i := 12) (v := ?_) rfl (by kernel_rfl) (by kernel_rfl) (by kernel_rfl) (fun _ _ _ h => h) (Or.inl ⟨by rfl, ?_⟩) Z1.out ?_
  rotate_left
  · intro wq hSw; go_simp; first | done | with_reducible rfl
  simp only [List.getElem_toArray, List.getElem_cons_zero, List.getElem_cons_succ, Act.put, List.setIfInBounds_toArray, List.set_cons_zero, List.set_cons_succ]
  refine wpAnyH_done (by kernel_rfl) ?_ _
  refine NoPanic.normal ?_
  refine hQQ.out _ _ ?_
  clear hQQ
  go_wp2_with fail
  go_ret
  exact ⟨rfl, G1.out.trans Z1.out⟩
end Go.Proofs.Ytihealembikkiaa.L14
