/-
  The document's TCP and UDP of layer 8 (port): what they answer.
-/
import Derived.Test.YtjecmkibddmheaaPortPut
import Derived.Test.YtjecmkibddmheaaBytesKit
import Derived.Deep.RegionHeld
namespace Go.Proofs.Ytjecmkibddmheaa
open Go.RowKit Oc Pt Go.Deep
set_option linter.unusedVariables false

theorem port_two_cells (w : World) (M : Nat) (h : M < 65536) (j : Nat) (hj : j < (bytesL M 2).length) : (w.alloc (.cells #[.int .u8 ((M : Int) / 256), .int .u8 ((M : Int) % 256)] 5)).cell? ((⟨w.heap.size, 0, none⟩ : Addr).add j) = some (.int .u8 ((bytesL M 2)[j].toNat : Int)) := by
  have hc := World.rowIs.cell (World.rowIs_alloc w #[.int .u8 ((M : Int) / 256), .int .u8 ((M : Int) % 256)] 5 (fun i => if i = 0 then .int .u8 ((M : Int) / 256) else .int .u8 ((M : Int) % 256)) (fun i hi => by
    simp at hi
    have e : i = 0 ∨ i = 1 := by omega
    rcases e with rfl | rfl <;> rfl)) (i := j) (by simpa [bytesL_len] using hj)
  rw [Addr.add_lit, Nat.zero_add, hc]
  rw [bytesL_len] at hj
  have e : j = 0 ∨ j = 1 := by omega
  rcases e with rfl | rfl
  · simp only [bytes_two]
    simp
    omega
  · simp only [bytes_two]
    simp
set_option maxHeartbeats 800000 in
theorem port_rtwo (N : Nat) (w : World) (h : N < 65536) : Calls Try.prog 24 #[.int .i64 (N : Int)] w fun e w' => e = .returned (.string (bsL (bytesL N 2))) ∧ Below w.heap.size w w' := by
  have hback := run_convert_bytes_back (P := Try.prog) (w.alloc (.cells #[.int .u8 ((N : Int) / 256), .int .u8 ((N : Int) % 256)] 5)) 37 9 5 ⟨w.heap.size, 0, none⟩ 2 (bytesL N 2) Try.underlying37 Try.underlying5 Try.underlying9 (port_two_cells w N h)
  rw [bytesL_len] at hback
  go_enter Try.func24, Try.ntmps24
  go_wp2_with fail
  go_ret
  exact ⟨rfl, (Below.refl _ _).alloc (Nat.le_refl _) _⟩
set_option maxHeartbeats 400000 in
theorem rport_yes (N : Nat) (w : World) (h : N < 65536) :
    Calls Try.prog 23 #[.int .i64 (N : Int)] w fun e w' => e = .returned (.bool true) ∧ w' = w := by
  have a : (N : Int) < 65536 := by omega
  go_enter Try.func23, Try.ntmps23
  go_wp2_with fail
  go_ret
  exact ⟨rfl, rfl⟩
set_option maxHeartbeats 400000 in
theorem rport_no (n : Int) (w : World) (h : ¬ (0 ≤ n ∧ n < 65536)) :
    Calls Try.prog 23 #[.int .i64 n] w fun e w' => e = .returned (.bool false) ∧ w' = w := by
  by_cases h1 : 0 ≤ n
  · have h2 : ¬ n < 65536 := by omega
    clear h
    go_enter Try.func23, Try.ntmps23
    go_wp2_with fail
    go_ret
    exact ⟨rfl, rfl⟩
  · clear h
    go_enter Try.func23, Try.ntmps23
    go_wp2_with fail
    go_ret
    exact ⟨rfl, rfl⟩
/-- One byte in a block, as a string. -/
theorem conv_one (w : World) (g a : Nat) (ha : a < 256) (h : Blk w g 5 #[.int .u8 (a : Int)]) :
    (convert 37 9 (.slice (some ⟨g, 0, none⟩) 1 1)).run Try.prog w = .ok (.string (bsL (bytesL a 1))) w := by
  have hback := run_convert_bytes_back (P := Try.prog) w 37 9 5 ⟨g, 0, none⟩ 1 (bytesL a 1) Try.underlying37 Try.underlying5 Try.underlying9 (fun j hj => by
    rw [Addr.add_lit, Nat.zero_add, h.cell j]
    rw [bytesL_len] at hj
    have e : j = 0 := by omega
    subst e
    simp [bytesL]
    omega)
  rw [bytesL_len] at hback
  exact hback
set_option maxHeartbeats 1600000 in
theorem rtcp_bad (n m : Int) (o b : List UInt8) (w : World) (hl : o.length ≤ 1152921504606846976) (h : ¬ (PortN n ∧ PortN m ∧ o.length ≤ 40 ∧ o.length % 4 = 0)) :
    Calls Try.prog 12 #[.int .i64 n, .int .i64 m, .string (bsL o), .string (bsL b)] w fun e w' => e = .returned (.tuple #[.string ⟨#[]⟩, .bool false]) ∧ Below w.heap.size w w' := by
  by_cases h1 : PortN n
  rotate_left
  · have H : Hid (¬ PortN n) := h1
    clear h h1
    go_enter Try.func12, Try.ntmps12
    go_wp2_with fail
    refine (rport_no n _ H.out).mono ?_
    rintro e u1 ⟨rfl, rfl⟩
    go_wp2_with fail
    go_returns
    exact ⟨rfl, Below.refl _ _⟩
  obtain ⟨A, rfl⟩ : ∃ A : Nat, n = A := ⟨n.toNat, by have := h1.1; omega⟩
  have hA : A < 65536 := by have := h1.2; omega
  by_cases h2 : PortN m
  rotate_left
  · have H : Hid (¬ PortN m) := h2
    clear h h1 h2
    go_enter Try.func12, Try.ntmps12
    go_wp2_with fail
    refine (rport_yes A _ hA).mono ?_
    rintro e u1 ⟨rfl, rfl⟩
    go_wp2_with fail
    refine (rport_no m _ H.out).mono ?_
    rintro e u2 ⟨rfl, rfl⟩
    go_wp2_with fail
    go_returns
    exact ⟨rfl, Below.refl _ _⟩
  obtain ⟨B, rfl⟩ : ∃ B : Nat, m = B := ⟨m.toNat, by have := h2.1; omega⟩
  have hB : B < 65536 := by have := h2.2; omega
  have H : Hid (¬ (o.length ≤ 40 ∧ o.length % 4 = 0)) := fun x => h ⟨h1, h2, x.1, x.2⟩
  clear h h1 h2
  by_cases h3 : 40 < o.length
  · clear H
    go_enter Try.func12, Try.ntmps12
    go_wp2_with fail
    refine (rport_yes A _ hA).mono ?_
    rintro e u1 ⟨rfl, rfl⟩
    go_wp2_with fail
    refine (rport_yes B _ hB).mono ?_
    rintro e u2 ⟨rfl, rfl⟩
    go_wp2_with fail
    go_returns
    exact ⟨rfl, Below.refl _ _⟩
  · have i4 : (0 : Int) < (o.length : Int) % 4 := by
      have := H.out
      omega
    clear H
    go_enter Try.func12, Try.ntmps12
    go_wp2_with fail
    refine (rport_yes A _ hA).mono ?_
    rintro e u1 ⟨rfl, rfl⟩
    go_wp2_with fail
    refine (rport_yes B _ hB).mono ?_
    rintro e u2 ⟨rfl, rfl⟩
    go_wp2_with fail
    go_returns
    exact ⟨rfl, Below.refl _ _⟩
set_option maxHeartbeats 3200000 in
theorem rtcp_ok (A B : Nat) (o b : List UInt8) (w : World) (hA : A < 65536) (hB : B < 65536) (ho : o.length ≤ 40) (h4 : o.length % 4 = 0) (hb : b.length ≤ 1152921504606846976) :
    Calls Try.prog 12 #[.int .i64 (A : Int), .int .i64 (B : Int), .string (bsL o), .string (bsL b)] w fun e w' => e = .returned (.tuple #[.string (bsL (tcpL A B o b)), .bool true]) ∧ Below w.heap.size w w' := by
  have i4 : ¬ (0 : Int) < (o.length : Int) % 4 := by omega
  have c0 : ¬ 40 < o.length := by omega
  obtain ⟨Sz, hSz⟩ : ∃ Sz, Sz = 20 + o.length := ⟨_, rfl⟩
  obtain ⟨G, hG⟩ : ∃ G, G = 4 * Sz := ⟨_, rfl⟩
  have z1 : (20 : Int) + (o.length : Int) = (Sz : Int) := by omega
  have z2 : IntKind.i64.wrap (Sz : Int) = (Sz : Int) := by rw [IntKind.wrap_i64]; omega
  have z3 : (4 : Int) * (Sz : Int) = (G : Int) := by omega
  have z4 : IntKind.i64.wrap (G : Int) = (G : Int) := by rw [IntKind.wrap_i64]; omega
  have z5 : IntKind.u8.wrap (G : Int) = (G : Int) := by rw [IntKind.wrap_u8]; omega
  have G1 : G < 256 := by omega
  have cq : ¬ 9223372036854775807 < 20 + o.length := by omega
  have cr : ¬ 9223372036854775807 < 2 + (2 + (8 + (1 + (7 + o.length)))) + b.length := by omega
  obtain ⟨x1, hx1⟩ : ∃ x, x = bytesL A 2 := ⟨_, rfl⟩
  obtain ⟨x2, hx2⟩ : ∃ x, x = bytesL B 2 := ⟨_, rfl⟩
  obtain ⟨x3, hx3⟩ : ∃ x, x = bytesL G 1 := ⟨_, rfl⟩
  obtain ⟨x8, hx8⟩ : ∃ x, x = zerosL 8 := ⟨_, rfl⟩
  obtain ⟨x7, hx7⟩ : ∃ x, x = zerosL 7 := ⟨_, rfl⟩
  have l1 : x1.length = 2 := by rw [hx1, bytesL_len]
  have l2 : x2.length = 2 := by rw [hx2, bytesL_len]
  have l3 : x3.length = 1 := by rw [hx3, bytesL_len]
  have l8 : x8.length = 8 := by rw [hx8, zerosL_len]
  have l7 : x7.length = 7 := by rw [hx7, zerosL_len]
  have t7 : x8.take 7 = x7 := by rw [hx8, hx7]; rfl
  have FIN : Hid (x1 ++ (x2 ++ (x8 ++ (x3 ++ (x7 ++ (o ++ b))))) = tcpL A B o b) := by
    show _ = _
    unfold tcpL
    rw [hx1, hx2, hx3, hx7, hx8, hG, hSz]
  have CV : ∀ (v : World) (g : Nat), Blk v g 5 #[.int .u8 (G : Int)] → (convert 37 9 (.slice (some ⟨g, 0, none⟩) 1 1)).run Try.prog v = .ok (.string (bsL x3)) v := fun v g hk => by rw [hx3]; exact conv_one v g G G1 hk
  have CV' : Hid (∀ (v : World) (g : Nat), Blk v g 5 #[.int .u8 (G : Int)] → (convert 37 9 (.slice (some ⟨g, 0, none⟩) 1 1)).run Try.prog v = .ok (.string (bsL x3)) v) := CV
  have HX1 : Hid (bytesL A 2 = x1) := hx1.symm
  have HX2 : Hid (bytesL B 2 = x2) := hx2.symm
  have hmk : (Instr.makeSlice 37 (.int .i64 8) (.int .i64 8)).run Try.prog w = .ok (.slice (some ⟨w.heap.size, 0, none⟩) 8 8) (w.alloc (.cells (madeCells #[.int .u8 0] 8) 5)) := run_make_full (P := Try.prog) 37 5 (.int .u8 0) 1 Try.underlying37 info5 rfl .i64 .i64 8 (by omega) (by omega) w
  have hbk : (convert 37 9 (.slice (some ⟨w.heap.size, 0, none⟩) 8 8)).run Try.prog (w.alloc (.cells (madeCells #[.int .u8 0] 8) 5)) = .ok (.string (bsL x8)) (w.alloc (.cells (madeCells #[.int .u8 0] 8) 5)) := by rw [hx8]; exact made_back w 8
  have B0 : Hid (Below w.heap.size w (w.alloc (.cells (madeCells #[.int .u8 0] 8) 5))) := bel_alloc _ _
  obtain ⟨W, hW⟩ : ∃ W, W = w.alloc (.cells (madeCells #[.int .u8 0] 8) 5) := ⟨_, rfl⟩
  rw [← hW] at hmk hbk B0
  clear hW CV hx1 hx2 hx3 hx7 hx8 hG hSz h4
  go_enter Try.func12, Try.ntmps12
  go_wp2_with fail
  refine (rport_yes A _ hA).mono ?_
  rintro e u1 ⟨rfl, rfl⟩
  go_wp2_with fail
  refine (rport_yes B _ hB).mono ?_
  rintro e u2 ⟨rfl, rfl⟩
  go_wp2_with fail
  clear hmk hbk
  refine wp_region_noPanic ?_
  have BD : Hid (Below u2.heap.size u2 W.drew) := B0.out.drew
  refine wp_region_held_drew (S := fun _ => True) (by kernel_rfl) trivial (fun hHeld => ?_)
  clear hHeld
  generalize W.drew = v0 at BD ⊢
  have BH0 : Hid (Below u2.heap.size u2 v0) := BD.out
  clear BD
  refine wpAnyH_take (i := 0) (v := ?_) rfl (by kernel_rfl) (by kernel_rfl) (by kernel_rfl) (fun _ _ _ h => h) (Or.inl ⟨by rfl, ?_⟩) trivial ?_
  rotate_left
  · intro w hSw; go_simp; first | done | with_reducible rfl
  simp only [List.getElem_toArray, List.getElem_cons_zero, Act.put, List.setIfInBounds_toArray, List.set_cons_zero, List.set_cons_succ]
  refine wpAnyH_take (i := 2) (v := ?_) rfl (by kernel_rfl) (by kernel_rfl) (by kernel_rfl) (fun _ _ _ h => h) (Or.inl ⟨by rfl, ?_⟩) trivial ?_
  rotate_left
  · intro w hSw; go_simp; first | done | with_reducible rfl
  simp only [List.getElem_toArray, List.getElem_cons_zero, List.getElem_cons_succ, Act.put, List.setIfInBounds_toArray, List.set_cons_zero, List.set_cons_succ]
  refine wpAnyH_take (i := 5) (v := ?_) rfl (by kernel_rfl) (by kernel_rfl) (by kernel_rfl) (fun _ _ _ h => h) (Or.inl ⟨by rfl, ?_⟩) trivial ?_
  rotate_left
  · intro w hSw; go_simp; first | done | with_reducible rfl
  simp only [List.getElem_toArray, List.getElem_cons_zero, List.getElem_cons_succ, Act.put, List.setIfInBounds_toArray, List.set_cons_zero, List.set_cons_succ]
  refine wpAnyH_take (i := 7) (v := ?_) rfl (by kernel_rfl) (by kernel_rfl) (by kernel_rfl) (fun _ _ _ h => h) (Or.inl ⟨by rfl, ?_⟩) trivial ?_
  rotate_left
  · intro w hSw; go_simp; first | done | with_reducible rfl
  simp only [List.getElem_toArray, List.getElem_cons_zero, List.getElem_cons_succ, Act.put, List.setIfInBounds_toArray, List.set_cons_zero, List.set_cons_succ]
  refine wpAnyH_take (i := 8) (v := ?_) rfl (by kernel_rfl) (by kernel_rfl) (by kernel_rfl) (fun _ _ _ h => h) (Or.inl ⟨by rfl, ?_⟩) trivial ?_
  rotate_left
  · intro w hSw; go_simp; first | done | with_reducible rfl
  simp only [List.getElem_toArray, List.getElem_cons_zero, List.getElem_cons_succ, Act.put, List.setIfInBounds_toArray, List.set_cons_zero, List.set_cons_succ]
  refine wpAnyH_take (i := 9) (v := ?_) rfl (by kernel_rfl) (by kernel_rfl) (by kernel_rfl) (fun _ _ _ h => h) (Or.inl ⟨by rfl, ?_⟩) trivial ?_
  rotate_left
  · intro w hSw; go_simp; first | done | with_reducible rfl
  simp only [List.getElem_toArray, List.getElem_cons_zero, List.getElem_cons_succ, Act.put, List.setIfInBounds_toArray, List.set_cons_zero, List.set_cons_succ]
  refine wpAnyH_take (i := 10) (v := ?_) rfl (by kernel_rfl) (by kernel_rfl) (by kernel_rfl) (fun _ _ _ h => h) (Or.inl ⟨by rfl, ?_⟩) trivial ?_
  rotate_left
  · intro w hSw; go_simp; first | done | with_reducible rfl
  simp only [List.getElem_toArray, List.getElem_cons_zero, List.getElem_cons_succ, Act.put, List.setIfInBounds_toArray, List.set_cons_zero, List.set_cons_succ]
  refine wpAnyH_take (i := 14) (v := ?_) rfl (by kernel_rfl) (by kernel_rfl) (by kernel_rfl) (fun _ _ _ h => h) (Or.inl ⟨by rfl, ?_⟩) trivial ?_
  rotate_left
  · intro w hSw; go_simp; first | done | with_reducible rfl
  simp only [List.getElem_toArray, List.getElem_cons_zero, List.getElem_cons_succ, Act.put, List.setIfInBounds_toArray, List.set_cons_zero, List.set_cons_succ]
  refine wpAnyH_take (i := 15) (v := ?_) rfl (by kernel_rfl) (by kernel_rfl) (by kernel_rfl) (fun _ _ _ h => h) (Or.inl ⟨by rfl, ?_⟩) trivial ?_
  rotate_left
  · intro w hSw; go_simp; first | done | with_reducible rfl
  simp only [List.getElem_toArray, List.getElem_cons_zero, List.getElem_cons_succ, Act.put, List.setIfInBounds_toArray, List.set_cons_zero, List.set_cons_succ]
  refine wpAnyH_take (i := 17) (v := ?_) rfl (by kernel_rfl) (by kernel_rfl) (by kernel_rfl) (fun _ _ _ h => h) (Or.inl ⟨by rfl, ?_⟩) trivial ?_
  rotate_left
  · intro w hSw; go_simp; first | done | with_reducible rfl
  simp only [List.getElem_toArray, List.getElem_cons_zero, List.getElem_cons_succ, Act.put, List.setIfInBounds_toArray, List.set_cons_zero, List.set_cons_succ]
  refine wpAnyH_take (i := 19) (v := ?_) rfl (by kernel_rfl) (by kernel_rfl) (by kernel_rfl) (fun _ _ _ h => h) (Or.inl ⟨by rfl, ?_⟩) trivial ?_
  rotate_left
  · intro w hSw; go_simp; first | done | with_reducible rfl
  simp only [List.getElem_toArray, List.getElem_cons_zero, List.getElem_cons_succ, Act.put, List.setIfInBounds_toArray, List.set_cons_zero, List.set_cons_succ]
  refine wpAnyH_ready (rs := [1, 11]) (by kernel_rfl) (by simp) ?_
  refine AllReadyH.cons rfl (fun K hK => ?_) ?_
  · go_simp
    refine (port_rtwo A _ hA).mono ?_
    rintro e v1 ⟨rfl, bb⟩
    rw [HX1.out]
    have BH1 : Hid (Below u2.heap.size u2 v1) := bel_trans BH0.out bb
    clear bb
    go_wp2_with fail
    refine hK.out _ _ trivial (fun hHeld => ?_)
    clear hK K hHeld
    refine wpAnyH_ready (rs := [3, 11]) (by kernel_rfl) (by simp) ?_
    refine AllReadyH.cons rfl (fun K hK => ?_) ?_
    · go_simp
      refine (port_rtwo B _ hB).mono ?_
      rintro e v2 ⟨rfl, bb⟩
      rw [HX2.out]
      have BH2 : Hid (Below u2.heap.size u2 v2) := bel_trans BH1.out bb
      clear bb
      go_wp2_with fail
      refine hK.out _ _ trivial (fun hHeld => ?_)
      clear hK K hHeld
      refine wpAnyH_take (i := 4) (v := ?_) rfl (by kernel_rfl) (by kernel_rfl) (by kernel_rfl) (fun _ _ _ h => h) (Or.inl ⟨by rfl, ?_⟩) trivial ?_
      rotate_left
      · intro w hSw; go_simp; first | done | with_reducible rfl
      simp only [List.getElem_toArray, List.getElem_cons_zero, List.getElem_cons_succ, Act.put, List.setIfInBounds_toArray, List.set_cons_zero, List.set_cons_succ]
      refine wpAnyH_take (i := 6) (v := ?_) rfl (by kernel_rfl) (by kernel_rfl) (by kernel_rfl) (fun _ _ _ h => h) (Or.inl ⟨by rfl, ?_⟩) trivial ?_
      rotate_left
      · intro w hSw; go_simp; first | done | with_reducible rfl
      simp only [List.getElem_toArray, List.getElem_cons_zero, List.getElem_cons_succ, Act.put, List.setIfInBounds_toArray, List.set_cons_zero, List.set_cons_succ]
      refine wpAnyH_ready (rs := [11]) (by kernel_rfl) (by simp) ?_
      refine AllReadyH.cons rfl (fun K hK => ?_) ?_
      · have nb := Blk.new v2 5 #[.int .u8 (G : Int)]
        have bb := bel_alloc v2 (.cells #[.int .u8 (G : Int)] 5)
        go_simp
        generalize v2.alloc (.cells #[.int .u8 (G : Int)] 5) = v3 at nb bb ⊢
        generalize v2.heap.size = g3 at nb ⊢
        have KB3 : Hid (Blk v3 g3 5 #[.int .u8 (G : Int)]) := nb
        have BH3 : Hid (Below u2.heap.size u2 v3) := bel_trans BH2.out bb
        clear nb bb
        refine hK.out _ _ trivial (fun hHeld => ?_)
        clear hK K hHeld
        refine wpAnyH_ready (rs := [12]) (by kernel_rfl) (by simp) ?_
        refine AllReadyH.cons rfl (fun K hK => ?_) ?_
        · have cv := CV'.out v3 _ KB3.out
          go_simp
          clear cv
          refine hK.out _ _ trivial (fun hHeld => ?_)
          clear hK K hHeld
          refine wpAnyH_take (i := 13) (v := ?_) rfl (by kernel_rfl) (by kernel_rfl) (by kernel_rfl) (fun _ _ _ h => h) (Or.inl ⟨by rfl, ?_⟩) trivial ?_
          rotate_left
          · intro w hSw; go_simp; first | done | with_reducible rfl
          simp only [List.getElem_toArray, List.getElem_cons_zero, List.getElem_cons_succ, Act.put, List.setIfInBounds_toArray, List.set_cons_zero, List.set_cons_succ]
          refine wpAnyH_take (i := 16) (v := ?_) rfl (by kernel_rfl) (by kernel_rfl) (by kernel_rfl) (fun _ _ _ h => h) (Or.inl ⟨by rfl, ?_⟩) trivial ?_
          rotate_left
          · intro w hSw; go_simp; first | done | with_reducible rfl
          simp only [List.getElem_toArray, List.getElem_cons_zero, List.getElem_cons_succ, Act.put, List.setIfInBounds_toArray, List.set_cons_zero, List.set_cons_succ]
          refine wpAnyH_take (i := 18) (v := ?_) rfl (by kernel_rfl) (by kernel_rfl) (by kernel_rfl) (fun _ _ _ h => h) (Or.inl ⟨by rfl, ?_⟩) trivial ?_
          rotate_left
          · intro w hSw; go_simp; first | done | with_reducible rfl
          simp only [List.getElem_toArray, List.getElem_cons_zero, List.getElem_cons_succ, Act.put, List.setIfInBounds_toArray, List.set_cons_zero, List.set_cons_succ]
          refine wpAnyH_take (i := 20) (v := ?_) rfl (by kernel_rfl) (by kernel_rfl) (by kernel_rfl) (fun _ _ _ h => h) (Or.inl ⟨by rfl, ?_⟩) trivial ?_
          rotate_left
          · intro w hSw; go_simp; first | done | with_reducible rfl
          simp only [List.getElem_toArray, List.getElem_cons_zero, List.getElem_cons_succ, Act.put, List.setIfInBounds_toArray, List.set_cons_zero, List.set_cons_succ]
          refine wpAnyH_take (i := 21) (v := ?_) rfl (by kernel_rfl) (by kernel_rfl) (by kernel_rfl) (fun _ _ _ h => h) (Or.inl ⟨by rfl, ?_⟩) trivial ?_
          rotate_left
          · intro w hSw; go_simp; first | done | with_reducible rfl
          simp only [List.getElem_toArray, List.getElem_cons_zero, List.getElem_cons_succ, Act.put, List.setIfInBounds_toArray, List.set_cons_zero, List.set_cons_succ]
          refine wpAnyH_take (i := 22) (v := ?_) rfl (by kernel_rfl) (by kernel_rfl) (by kernel_rfl) (fun _ _ _ h => h) (Or.inl ⟨by rfl, ?_⟩) trivial ?_
          rotate_left
          · intro w hSw; go_simp; first | done | with_reducible rfl
          simp only [List.getElem_toArray, List.getElem_cons_zero, List.getElem_cons_succ, Act.put, List.setIfInBounds_toArray, List.set_cons_zero, List.set_cons_succ]
          refine wpAnyH_done (by kernel_rfl) ?_ _
          refine NoPanic.normal ?_
          go_wp2_with fail
          go_returns
          exact ⟨by rw [← FIN.out]; rfl, BH3.out⟩
        exact AllReadyH.nil
      exact AllReadyH.nil
    refine AllReadyH.cons rfl (fun K hK => ?_) ?_
    · have nb := Blk.new v1 5 #[.int .u8 (G : Int)]
      have bb := bel_alloc v1 (.cells #[.int .u8 (G : Int)] 5)
      go_simp
      generalize v1.alloc (.cells #[.int .u8 (G : Int)] 5) = v2 at nb bb ⊢
      generalize v1.heap.size = g2 at nb ⊢
      have KB2 : Hid (Blk v2 g2 5 #[.int .u8 (G : Int)]) := nb
      have BH2 : Hid (Below u2.heap.size u2 v2) := bel_trans BH1.out bb
      clear nb bb
      refine hK.out _ _ trivial (fun hHeld => ?_)
      clear hK K hHeld
      refine wpAnyH_ready (rs := [3, 12]) (by kernel_rfl) (by simp) ?_
      refine AllReadyH.cons rfl (fun K hK => ?_) ?_
      · go_simp
        refine (port_rtwo B _ hB).mono ?_
        rintro e v3 ⟨rfl, bb⟩
        rw [HX2.out]
        have KB3 : Hid (Blk v3 _ 5 #[.int .u8 (G : Int)]) := KB2.out.since bb
        have BH3 : Hid (Below u2.heap.size u2 v3) := bel_trans BH2.out bb
        clear bb
        go_wp2_with fail
        refine hK.out _ _ trivial (fun hHeld => ?_)
        clear hK K hHeld
        refine wpAnyH_take (i := 4) (v := ?_) rfl (by kernel_rfl) (by kernel_rfl) (by kernel_rfl) (fun _ _ _ h => h) (Or.inl ⟨by rfl, ?_⟩) trivial ?_
        rotate_left
        · intro w hSw; go_simp; first | done | with_reducible rfl
        simp only [List.getElem_toArray, List.getElem_cons_zero, List.getElem_cons_succ, Act.put, List.setIfInBounds_toArray, List.set_cons_zero, List.set_cons_succ]
        refine wpAnyH_take (i := 6) (v := ?_) rfl (by kernel_rfl) (by kernel_rfl) (by kernel_rfl) (fun _ _ _ h => h) (Or.inl ⟨by rfl, ?_⟩) trivial ?_
        rotate_left
        · intro w hSw; go_simp; first | done | with_reducible rfl
        simp only [List.getElem_toArray, List.getElem_cons_zero, List.getElem_cons_succ, Act.put, List.setIfInBounds_toArray, List.set_cons_zero, List.set_cons_succ]
        refine wpAnyH_ready (rs := [12]) (by kernel_rfl) (by simp) ?_
        refine AllReadyH.cons rfl (fun K hK => ?_) ?_
        · have cv := CV'.out v3 _ KB3.out
          go_simp
          clear cv
          refine hK.out _ _ trivial (fun hHeld => ?_)
          clear hK K hHeld
          refine wpAnyH_take (i := 13) (v := ?_) rfl (by kernel_rfl) (by kernel_rfl) (by kernel_rfl) (fun _ _ _ h => h) (Or.inl ⟨by rfl, ?_⟩) trivial ?_
          rotate_left
          · intro w hSw; go_simp; first | done | with_reducible rfl
          simp only [List.getElem_toArray, List.getElem_cons_zero, List.getElem_cons_succ, Act.put, List.setIfInBounds_toArray, List.set_cons_zero, List.set_cons_succ]
          refine wpAnyH_take (i := 16) (v := ?_) rfl (by kernel_rfl) (by kernel_rfl) (by kernel_rfl) (fun _ _ _ h => h) (Or.inl ⟨by rfl, ?_⟩) trivial ?_
          rotate_left
          · intro w hSw; go_simp; first | done | with_reducible rfl
          simp only [List.getElem_toArray, List.getElem_cons_zero, List.getElem_cons_succ, Act.put, List.setIfInBounds_toArray, List.set_cons_zero, List.set_cons_succ]
          refine wpAnyH_take (i := 18) (v := ?_) rfl (by kernel_rfl) (by kernel_rfl) (by kernel_rfl) (fun _ _ _ h => h) (Or.inl ⟨by rfl, ?_⟩) trivial ?_
          rotate_left
          · intro w hSw; go_simp; first | done | with_reducible rfl
          simp only [List.getElem_toArray, List.getElem_cons_zero, List.getElem_cons_succ, Act.put, List.setIfInBounds_toArray, List.set_cons_zero, List.set_cons_succ]
          refine wpAnyH_take (i := 20) (v := ?_) rfl (by kernel_rfl) (by kernel_rfl) (by kernel_rfl) (fun _ _ _ h => h) (Or.inl ⟨by rfl, ?_⟩) trivial ?_
          rotate_left
          · intro w hSw; go_simp; first | done | with_reducible rfl
          simp only [List.getElem_toArray, List.getElem_cons_zero, List.getElem_cons_succ, Act.put, List.setIfInBounds_toArray, List.set_cons_zero, List.set_cons_succ]
          refine wpAnyH_take (i := 21) (v := ?_) rfl (by kernel_rfl) (by kernel_rfl) (by kernel_rfl) (fun _ _ _ h => h) (Or.inl ⟨by rfl, ?_⟩) trivial ?_
          rotate_left
          · intro w hSw; go_simp; first | done | with_reducible rfl
          simp only [List.getElem_toArray, List.getElem_cons_zero, List.getElem_cons_succ, Act.put, List.setIfInBounds_toArray, List.set_cons_zero, List.set_cons_succ]
          refine wpAnyH_take (i := 22) (v := ?_) rfl (by kernel_rfl) (by kernel_rfl) (by kernel_rfl) (fun _ _ _ h => h) (Or.inl ⟨by rfl, ?_⟩) trivial ?_
          rotate_left
          · intro w hSw; go_simp; first | done | with_reducible rfl
          simp only [List.getElem_toArray, List.getElem_cons_zero, List.getElem_cons_succ, Act.put, List.setIfInBounds_toArray, List.set_cons_zero, List.set_cons_succ]
          refine wpAnyH_done (by kernel_rfl) ?_ _
          refine NoPanic.normal ?_
          go_wp2_with fail
          go_returns
          exact ⟨by rw [← FIN.out]; rfl, BH3.out⟩
        exact AllReadyH.nil
      refine AllReadyH.cons rfl (fun K hK => ?_) ?_
      · have cv := CV'.out v2 _ KB2.out
        go_simp
        clear cv
        refine hK.out _ _ trivial (fun hHeld => ?_)
        clear hK K hHeld
        refine wpAnyH_ready (rs := [3]) (by kernel_rfl) (by simp) ?_
        refine AllReadyH.cons rfl (fun K hK => ?_) ?_
        · go_simp
          refine (port_rtwo B _ hB).mono ?_
          rintro e v3 ⟨rfl, bb⟩
          rw [HX2.out]
          have BH3 : Hid (Below u2.heap.size u2 v3) := bel_trans BH2.out bb
          clear bb
          go_wp2_with fail
          refine hK.out _ _ trivial (fun hHeld => ?_)
          clear hK K hHeld
          refine wpAnyH_take (i := 4) (v := ?_) rfl (by kernel_rfl) (by kernel_rfl) (by kernel_rfl) (fun _ _ _ h => h) (Or.inl ⟨by rfl, ?_⟩) trivial ?_
          rotate_left
          · intro w hSw; go_simp; first | done | with_reducible rfl
          simp only [List.getElem_toArray, List.getElem_cons_zero, List.getElem_cons_succ, Act.put, List.setIfInBounds_toArray, List.set_cons_zero, List.set_cons_succ]
          refine wpAnyH_take (i := 6) (v := ?_) rfl (by kernel_rfl) (by kernel_rfl) (by kernel_rfl) (fun _ _ _ h => h) (Or.inl ⟨by rfl, ?_⟩) trivial ?_
          rotate_left
          · intro w hSw; go_simp; first | done | with_reducible rfl
          simp only [List.getElem_toArray, List.getElem_cons_zero, List.getElem_cons_succ, Act.put, List.setIfInBounds_toArray, List.set_cons_zero, List.set_cons_succ]
          refine wpAnyH_take (i := 13) (v := ?_) rfl (by kernel_rfl) (by kernel_rfl) (by kernel_rfl) (fun _ _ _ h => h) (Or.inl ⟨by rfl, ?_⟩) trivial ?_
          rotate_left
          · intro w hSw; go_simp; first | done | with_reducible rfl
          simp only [List.getElem_toArray, List.getElem_cons_zero, List.getElem_cons_succ, Act.put, List.setIfInBounds_toArray, List.set_cons_zero, List.set_cons_succ]
          refine wpAnyH_take (i := 16) (v := ?_) rfl (by kernel_rfl) (by kernel_rfl) (by kernel_rfl) (fun _ _ _ h => h) (Or.inl ⟨by rfl, ?_⟩) trivial ?_
          rotate_left
          · intro w hSw; go_simp; first | done | with_reducible rfl
          simp only [List.getElem_toArray, List.getElem_cons_zero, List.getElem_cons_succ, Act.put, List.setIfInBounds_toArray, List.set_cons_zero, List.set_cons_succ]
          refine wpAnyH_take (i := 18) (v := ?_) rfl (by kernel_rfl) (by kernel_rfl) (by kernel_rfl) (fun _ _ _ h => h) (Or.inl ⟨by rfl, ?_⟩) trivial ?_
          rotate_left
          · intro w hSw; go_simp; first | done | with_reducible rfl
          simp only [List.getElem_toArray, List.getElem_cons_zero, List.getElem_cons_succ, Act.put, List.setIfInBounds_toArray, List.set_cons_zero, List.set_cons_succ]
          refine wpAnyH_take (i := 20) (v := ?_) rfl (by kernel_rfl) (by kernel_rfl) (by kernel_rfl) (fun _ _ _ h => h) (Or.inl ⟨by rfl, ?_⟩) trivial ?_
          rotate_left
          · intro w hSw; go_simp; first | done | with_reducible rfl
          simp only [List.getElem_toArray, List.getElem_cons_zero, List.getElem_cons_succ, Act.put, List.setIfInBounds_toArray, List.set_cons_zero, List.set_cons_succ]
          refine wpAnyH_take (i := 21) (v := ?_) rfl (by kernel_rfl) (by kernel_rfl) (by kernel_rfl) (fun _ _ _ h => h) (Or.inl ⟨by rfl, ?_⟩) trivial ?_
          rotate_left
          · intro w hSw; go_simp; first | done | with_reducible rfl
          simp only [List.getElem_toArray, List.getElem_cons_zero, List.getElem_cons_succ, Act.put, List.setIfInBounds_toArray, List.set_cons_zero, List.set_cons_succ]
          refine wpAnyH_take (i := 22) (v := ?_) rfl (by kernel_rfl) (by kernel_rfl) (by kernel_rfl) (fun _ _ _ h => h) (Or.inl ⟨by rfl, ?_⟩) trivial ?_
          rotate_left
          · intro w hSw; go_simp; first | done | with_reducible rfl
          simp only [List.getElem_toArray, List.getElem_cons_zero, List.getElem_cons_succ, Act.put, List.setIfInBounds_toArray, List.set_cons_zero, List.set_cons_succ]
          refine wpAnyH_done (by kernel_rfl) ?_ _
          refine NoPanic.normal ?_
          go_wp2_with fail
          go_returns
          exact ⟨by rw [← FIN.out]; rfl, BH3.out⟩
        exact AllReadyH.nil
      exact AllReadyH.nil
    exact AllReadyH.nil
  refine AllReadyH.cons rfl (fun K hK => ?_) ?_
  · have nb := Blk.new v0 5 #[.int .u8 (G : Int)]
    have bb := bel_alloc v0 (.cells #[.int .u8 (G : Int)] 5)
    go_simp
    generalize v0.alloc (.cells #[.int .u8 (G : Int)] 5) = v1 at nb bb ⊢
    generalize v0.heap.size = g1 at nb ⊢
    have KB1 : Hid (Blk v1 g1 5 #[.int .u8 (G : Int)]) := nb
    have BH1 : Hid (Below u2.heap.size u2 v1) := bel_trans BH0.out bb
    clear nb bb
    refine hK.out _ _ trivial (fun hHeld => ?_)
    clear hK K hHeld
    refine wpAnyH_ready (rs := [1, 12]) (by kernel_rfl) (by simp) ?_
    refine AllReadyH.cons rfl (fun K hK => ?_) ?_
    · go_simp
      refine (port_rtwo A _ hA).mono ?_
      rintro e v2 ⟨rfl, bb⟩
      rw [HX1.out]
      have KB2 : Hid (Blk v2 _ 5 #[.int .u8 (G : Int)]) := KB1.out.since bb
      have BH2 : Hid (Below u2.heap.size u2 v2) := bel_trans BH1.out bb
      clear bb
      go_wp2_with fail
      refine hK.out _ _ trivial (fun hHeld => ?_)
      clear hK K hHeld
      refine wpAnyH_ready (rs := [3, 12]) (by kernel_rfl) (by simp) ?_
      refine AllReadyH.cons rfl (fun K hK => ?_) ?_
      · go_simp
        refine (port_rtwo B _ hB).mono ?_
        rintro e v3 ⟨rfl, bb⟩
        rw [HX2.out]
        have KB3 : Hid (Blk v3 _ 5 #[.int .u8 (G : Int)]) := KB2.out.since bb
        have BH3 : Hid (Below u2.heap.size u2 v3) := bel_trans BH2.out bb
        clear bb
        go_wp2_with fail
        refine hK.out _ _ trivial (fun hHeld => ?_)
        clear hK K hHeld
        refine wpAnyH_take (i := 4) (v := ?_) rfl (by kernel_rfl) (by kernel_rfl) (by kernel_rfl) (fun _ _ _ h => h) (Or.inl ⟨by rfl, ?_⟩) trivial ?_
        rotate_left
        · intro w hSw; go_simp; first | done | with_reducible rfl
        simp only [List.getElem_toArray, List.getElem_cons_zero, List.getElem_cons_succ, Act.put, List.setIfInBounds_toArray, List.set_cons_zero, List.set_cons_succ]
        refine wpAnyH_take (i := 6) (v := ?_) rfl (by kernel_rfl) (by kernel_rfl) (by kernel_rfl) (fun _ _ _ h => h) (Or.inl ⟨by rfl, ?_⟩) trivial ?_
        rotate_left
        · intro w hSw; go_simp; first | done | with_reducible rfl
        simp only [List.getElem_toArray, List.getElem_cons_zero, List.getElem_cons_succ, Act.put, List.setIfInBounds_toArray, List.set_cons_zero, List.set_cons_succ]
        refine wpAnyH_ready (rs := [12]) (by kernel_rfl) (by simp) ?_
        refine AllReadyH.cons rfl (fun K hK => ?_) ?_
        · have cv := CV'.out v3 _ KB3.out
          go_simp
          clear cv
          refine hK.out _ _ trivial (fun hHeld => ?_)
          clear hK K hHeld
          refine wpAnyH_take (i := 13) (v := ?_) rfl (by kernel_rfl) (by kernel_rfl) (by kernel_rfl) (fun _ _ _ h => h) (Or.inl ⟨by rfl, ?_⟩) trivial ?_
          rotate_left
          · intro w hSw; go_simp; first | done | with_reducible rfl
          simp only [List.getElem_toArray, List.getElem_cons_zero, List.getElem_cons_succ, Act.put, List.setIfInBounds_toArray, List.set_cons_zero, List.set_cons_succ]
          refine wpAnyH_take (i := 16) (v := ?_) rfl (by kernel_rfl) (by kernel_rfl) (by kernel_rfl) (fun _ _ _ h => h) (Or.inl ⟨by rfl, ?_⟩) trivial ?_
          rotate_left
          · intro w hSw; go_simp; first | done | with_reducible rfl
          simp only [List.getElem_toArray, List.getElem_cons_zero, List.getElem_cons_succ, Act.put, List.setIfInBounds_toArray, List.set_cons_zero, List.set_cons_succ]
          refine wpAnyH_take (i := 18) (v := ?_) rfl (by kernel_rfl) (by kernel_rfl) (by kernel_rfl) (fun _ _ _ h => h) (Or.inl ⟨by rfl, ?_⟩) trivial ?_
          rotate_left
          · intro w hSw; go_simp; first | done | with_reducible rfl
          simp only [List.getElem_toArray, List.getElem_cons_zero, List.getElem_cons_succ, Act.put, List.setIfInBounds_toArray, List.set_cons_zero, List.set_cons_succ]
          refine wpAnyH_take (i := 20) (v := ?_) rfl (by kernel_rfl) (by kernel_rfl) (by kernel_rfl) (fun _ _ _ h => h) (Or.inl ⟨by rfl, ?_⟩) trivial ?_
          rotate_left
          · intro w hSw; go_simp; first | done | with_reducible rfl
          simp only [List.getElem_toArray, List.getElem_cons_zero, List.getElem_cons_succ, Act.put, List.setIfInBounds_toArray, List.set_cons_zero, List.set_cons_succ]
          refine wpAnyH_take (i := 21) (v := ?_) rfl (by kernel_rfl) (by kernel_rfl) (by kernel_rfl) (fun _ _ _ h => h) (Or.inl ⟨by rfl, ?_⟩) trivial ?_
          rotate_left
          · intro w hSw; go_simp; first | done | with_reducible rfl
          simp only [List.getElem_toArray, List.getElem_cons_zero, List.getElem_cons_succ, Act.put, List.setIfInBounds_toArray, List.set_cons_zero, List.set_cons_succ]
          refine wpAnyH_take (i := 22) (v := ?_) rfl (by kernel_rfl) (by kernel_rfl) (by kernel_rfl) (fun _ _ _ h => h) (Or.inl ⟨by rfl, ?_⟩) trivial ?_
          rotate_left
          · intro w hSw; go_simp; first | done | with_reducible rfl
          simp only [List.getElem_toArray, List.getElem_cons_zero, List.getElem_cons_succ, Act.put, List.setIfInBounds_toArray, List.set_cons_zero, List.set_cons_succ]
          refine wpAnyH_done (by kernel_rfl) ?_ _
          refine NoPanic.normal ?_
          go_wp2_with fail
          go_returns
          exact ⟨by rw [← FIN.out]; rfl, BH3.out⟩
        exact AllReadyH.nil
      refine AllReadyH.cons rfl (fun K hK => ?_) ?_
      · have cv := CV'.out v2 _ KB2.out
        go_simp
        clear cv
        refine hK.out _ _ trivial (fun hHeld => ?_)
        clear hK K hHeld
        refine wpAnyH_ready (rs := [3]) (by kernel_rfl) (by simp) ?_
        refine AllReadyH.cons rfl (fun K hK => ?_) ?_
        · go_simp
          refine (port_rtwo B _ hB).mono ?_
          rintro e v3 ⟨rfl, bb⟩
          rw [HX2.out]
          have BH3 : Hid (Below u2.heap.size u2 v3) := bel_trans BH2.out bb
          clear bb
          go_wp2_with fail
          refine hK.out _ _ trivial (fun hHeld => ?_)
          clear hK K hHeld
          refine wpAnyH_take (i := 4) (v := ?_) rfl (by kernel_rfl) (by kernel_rfl) (by kernel_rfl) (fun _ _ _ h => h) (Or.inl ⟨by rfl, ?_⟩) trivial ?_
          rotate_left
          · intro w hSw; go_simp; first | done | with_reducible rfl
          simp only [List.getElem_toArray, List.getElem_cons_zero, List.getElem_cons_succ, Act.put, List.setIfInBounds_toArray, List.set_cons_zero, List.set_cons_succ]
          refine wpAnyH_take (i := 6) (v := ?_) rfl (by kernel_rfl) (by kernel_rfl) (by kernel_rfl) (fun _ _ _ h => h) (Or.inl ⟨by rfl, ?_⟩) trivial ?_
          rotate_left
          · intro w hSw; go_simp; first | done | with_reducible rfl
          simp only [List.getElem_toArray, List.getElem_cons_zero, List.getElem_cons_succ, Act.put, List.setIfInBounds_toArray, List.set_cons_zero, List.set_cons_succ]
          refine wpAnyH_take (i := 13) (v := ?_) rfl (by kernel_rfl) (by kernel_rfl) (by kernel_rfl) (fun _ _ _ h => h) (Or.inl ⟨by rfl, ?_⟩) trivial ?_
          rotate_left
          · intro w hSw; go_simp; first | done | with_reducible rfl
          simp only [List.getElem_toArray, List.getElem_cons_zero, List.getElem_cons_succ, Act.put, List.setIfInBounds_toArray, List.set_cons_zero, List.set_cons_succ]
          refine wpAnyH_take (i := 16) (v := ?_) rfl (by kernel_rfl) (by kernel_rfl) (by kernel_rfl) (fun _ _ _ h => h) (Or.inl ⟨by rfl, ?_⟩) trivial ?_
          rotate_left
          · intro w hSw; go_simp; first | done | with_reducible rfl
          simp only [List.getElem_toArray, List.getElem_cons_zero, List.getElem_cons_succ, Act.put, List.setIfInBounds_toArray, List.set_cons_zero, List.set_cons_succ]
          refine wpAnyH_take (i := 18) (v := ?_) rfl (by kernel_rfl) (by kernel_rfl) (by kernel_rfl) (fun _ _ _ h => h) (Or.inl ⟨by rfl, ?_⟩) trivial ?_
          rotate_left
          · intro w hSw; go_simp; first | done | with_reducible rfl
          simp only [List.getElem_toArray, List.getElem_cons_zero, List.getElem_cons_succ, Act.put, List.setIfInBounds_toArray, List.set_cons_zero, List.set_cons_succ]
          refine wpAnyH_take (i := 20) (v := ?_) rfl (by kernel_rfl) (by kernel_rfl) (by kernel_rfl) (fun _ _ _ h => h) (Or.inl ⟨by rfl, ?_⟩) trivial ?_
          rotate_left
          · intro w hSw; go_simp; first | done | with_reducible rfl
          simp only [List.getElem_toArray, List.getElem_cons_zero, List.getElem_cons_succ, Act.put, List.setIfInBounds_toArray, List.set_cons_zero, List.set_cons_succ]
          refine wpAnyH_take (i := 21) (v := ?_) rfl (by kernel_rfl) (by kernel_rfl) (by kernel_rfl) (fun _ _ _ h => h) (Or.inl ⟨by rfl, ?_⟩) trivial ?_
          rotate_left
          · intro w hSw; go_simp; first | done | with_reducible rfl
          simp only [List.getElem_toArray, List.getElem_cons_zero, List.getElem_cons_succ, Act.put, List.setIfInBounds_toArray, List.set_cons_zero, List.set_cons_succ]
          refine wpAnyH_take (i := 22) (v := ?_) rfl (by kernel_rfl) (by kernel_rfl) (by kernel_rfl) (fun _ _ _ h => h) (Or.inl ⟨by rfl, ?_⟩) trivial ?_
          rotate_left
          · intro w hSw; go_simp; first | done | with_reducible rfl
          simp only [List.getElem_toArray, List.getElem_cons_zero, List.getElem_cons_succ, Act.put, List.setIfInBounds_toArray, List.set_cons_zero, List.set_cons_succ]
          refine wpAnyH_done (by kernel_rfl) ?_ _
          refine NoPanic.normal ?_
          go_wp2_with fail
          go_returns
          exact ⟨by rw [← FIN.out]; rfl, BH3.out⟩
        exact AllReadyH.nil
      exact AllReadyH.nil
    refine AllReadyH.cons rfl (fun K hK => ?_) ?_
    · have cv := CV'.out v1 _ KB1.out
      go_simp
      clear cv
      refine hK.out _ _ trivial (fun hHeld => ?_)
      clear hK K hHeld
      refine wpAnyH_ready (rs := [1]) (by kernel_rfl) (by simp) ?_
      refine AllReadyH.cons rfl (fun K hK => ?_) ?_
      · go_simp
        refine (port_rtwo A _ hA).mono ?_
        rintro e v2 ⟨rfl, bb⟩
        rw [HX1.out]
        have BH2 : Hid (Below u2.heap.size u2 v2) := bel_trans BH1.out bb
        clear bb
        go_wp2_with fail
        refine hK.out _ _ trivial (fun hHeld => ?_)
        clear hK K hHeld
        refine wpAnyH_ready (rs := [3]) (by kernel_rfl) (by simp) ?_
        refine AllReadyH.cons rfl (fun K hK => ?_) ?_
        · go_simp
          refine (port_rtwo B _ hB).mono ?_
          rintro e v3 ⟨rfl, bb⟩
          rw [HX2.out]
          have BH3 : Hid (Below u2.heap.size u2 v3) := bel_trans BH2.out bb
          clear bb
          go_wp2_with fail
          refine hK.out _ _ trivial (fun hHeld => ?_)
          clear hK K hHeld
          refine wpAnyH_take (i := 4) (v := ?_) rfl (by kernel_rfl) (by kernel_rfl) (by kernel_rfl) (fun _ _ _ h => h) (Or.inl ⟨by rfl, ?_⟩) trivial ?_
          rotate_left
          · intro w hSw; go_simp; first | done | with_reducible rfl
          simp only [List.getElem_toArray, List.getElem_cons_zero, List.getElem_cons_succ, Act.put, List.setIfInBounds_toArray, List.set_cons_zero, List.set_cons_succ]
          refine wpAnyH_take (i := 6) (v := ?_) rfl (by kernel_rfl) (by kernel_rfl) (by kernel_rfl) (fun _ _ _ h => h) (Or.inl ⟨by rfl, ?_⟩) trivial ?_
          rotate_left
          · intro w hSw; go_simp; first | done | with_reducible rfl
          simp only [List.getElem_toArray, List.getElem_cons_zero, List.getElem_cons_succ, Act.put, List.setIfInBounds_toArray, List.set_cons_zero, List.set_cons_succ]
          refine wpAnyH_take (i := 13) (v := ?_) rfl (by kernel_rfl) (by kernel_rfl) (by kernel_rfl) (fun _ _ _ h => h) (Or.inl ⟨by rfl, ?_⟩) trivial ?_
          rotate_left
          · intro w hSw; go_simp; first | done | with_reducible rfl
          simp only [List.getElem_toArray, List.getElem_cons_zero, List.getElem_cons_succ, Act.put, List.setIfInBounds_toArray, List.set_cons_zero, List.set_cons_succ]
          refine wpAnyH_take (i := 16) (v := ?_) rfl (by kernel_rfl) (by kernel_rfl) (by kernel_rfl) (fun _ _ _ h => h) (Or.inl ⟨by rfl, ?_⟩) trivial ?_
          rotate_left
          · intro w hSw; go_simp; first | done | with_reducible rfl
          simp only [List.getElem_toArray, List.getElem_cons_zero, List.getElem_cons_succ, Act.put, List.setIfInBounds_toArray, List.set_cons_zero, List.set_cons_succ]
          refine wpAnyH_take (i := 18) (v := ?_) rfl (by kernel_rfl) (by kernel_rfl) (by kernel_rfl) (fun _ _ _ h => h) (Or.inl ⟨by rfl, ?_⟩) trivial ?_
          rotate_left
          · intro w hSw; go_simp; first | done | with_reducible rfl
          simp only [List.getElem_toArray, List.getElem_cons_zero, List.getElem_cons_succ, Act.put, List.setIfInBounds_toArray, List.set_cons_zero, List.set_cons_succ]
          refine wpAnyH_take (i := 20) (v := ?_) rfl (by kernel_rfl) (by kernel_rfl) (by kernel_rfl) (fun _ _ _ h => h) (Or.inl ⟨by rfl, ?_⟩) trivial ?_
          rotate_left
          · intro w hSw; go_simp; first | done | with_reducible rfl
          simp only [List.getElem_toArray, List.getElem_cons_zero, List.getElem_cons_succ, Act.put, List.setIfInBounds_toArray, List.set_cons_zero, List.set_cons_succ]
          refine wpAnyH_take (i := 21) (v := ?_) rfl (by kernel_rfl) (by kernel_rfl) (by kernel_rfl) (fun _ _ _ h => h) (Or.inl ⟨by rfl, ?_⟩) trivial ?_
          rotate_left
          · intro w hSw; go_simp; first | done | with_reducible rfl
          simp only [List.getElem_toArray, List.getElem_cons_zero, List.getElem_cons_succ, Act.put, List.setIfInBounds_toArray, List.set_cons_zero, List.set_cons_succ]
          refine wpAnyH_take (i := 22) (v := ?_) rfl (by kernel_rfl) (by kernel_rfl) (by kernel_rfl) (fun _ _ _ h => h) (Or.inl ⟨by rfl, ?_⟩) trivial ?_
          rotate_left
          · intro w hSw; go_simp; first | done | with_reducible rfl
          simp only [List.getElem_toArray, List.getElem_cons_zero, List.getElem_cons_succ, Act.put, List.setIfInBounds_toArray, List.set_cons_zero, List.set_cons_succ]
          refine wpAnyH_done (by kernel_rfl) ?_ _
          refine NoPanic.normal ?_
          go_wp2_with fail
          go_returns
          exact ⟨by rw [← FIN.out]; rfl, BH3.out⟩
        exact AllReadyH.nil
      exact AllReadyH.nil
    exact AllReadyH.nil
  exact AllReadyH.nil
set_option maxHeartbeats 1600000 in
theorem rudp_bad (n m : Int) (b : List UInt8) (w : World) (hl : b.length ≤ 1152921504606846976) (h : ¬ (PortN n ∧ PortN m ∧ b.length ≤ 65527)) :
    Calls Try.prog 14 #[.int .i64 n, .int .i64 m, .string (bsL b)] w fun e w' => e = .returned (.tuple #[.string ⟨#[]⟩, .bool false]) ∧ Below w.heap.size w w' := by
  by_cases h1 : PortN n
  rotate_left
  · have H : Hid (¬ PortN n) := h1
    clear h h1
    go_enter Try.func14, Try.ntmps14
    go_wp2_with fail
    refine (rport_no n _ H.out).mono ?_
    rintro e u1 ⟨rfl, rfl⟩
    go_wp2_with fail
    go_returns
    exact ⟨rfl, Below.refl _ _⟩
  obtain ⟨A, rfl⟩ : ∃ A : Nat, n = A := ⟨n.toNat, by have := h1.1; omega⟩
  have hA : A < 65536 := by have := h1.2; omega
  by_cases h2 : PortN m
  rotate_left
  · have H : Hid (¬ PortN m) := h2
    clear h h1 h2
    go_enter Try.func14, Try.ntmps14
    go_wp2_with fail
    refine (rport_yes A _ hA).mono ?_
    rintro e u1 ⟨rfl, rfl⟩
    go_wp2_with fail
    refine (rport_no m _ H.out).mono ?_
    rintro e u2 ⟨rfl, rfl⟩
    go_wp2_with fail
    go_returns
    exact ⟨rfl, Below.refl _ _⟩
  obtain ⟨B, rfl⟩ : ∃ B : Nat, m = B := ⟨m.toNat, by have := h2.1; omega⟩
  have hB : B < 65536 := by have := h2.2; omega
  have h3 : 65527 < b.length := by
    apply Nat.lt_of_not_le
    intro x
    exact h ⟨h1, h2, x⟩
  clear h h1 h2
  go_enter Try.func14, Try.ntmps14
  go_wp2_with fail
  refine (rport_yes A _ hA).mono ?_
  rintro e u1 ⟨rfl, rfl⟩
  go_wp2_with fail
  refine (rport_yes B _ hB).mono ?_
  rintro e u2 ⟨rfl, rfl⟩
  go_wp2_with fail
  go_returns
  exact ⟨rfl, Below.refl _ _⟩
set_option maxHeartbeats 1600000 in
theorem rudp_ok (A B : Nat) (b : List UInt8) (w : World) (hA : A < 65536) (hB : B < 65536) (hb : b.length ≤ 65527) :
    Calls Try.prog 14 #[.int .i64 (A : Int), .int .i64 (B : Int), .string (bsL b)] w fun e w' => e = .returned (.tuple #[.string (bsL (udpL A B b)), .bool true]) ∧ Below w.heap.size w w' := by
  have c0 : ¬ 65527 < b.length := by omega
  obtain ⟨G, hG⟩ : ∃ G, G = 8 + b.length := ⟨_, rfl⟩
  have z1 : (8 : Int) + (b.length : Int) = (G : Int) := by omega
  have G1 : G < 65536 := by omega
  obtain ⟨x1, hx1⟩ : ∃ x, x = bytesL A 2 := ⟨_, rfl⟩
  obtain ⟨x2, hx2⟩ : ∃ x, x = bytesL B 2 := ⟨_, rfl⟩
  obtain ⟨x3, hx3⟩ : ∃ x, x = bytesL G 2 := ⟨_, rfl⟩
  obtain ⟨x4, hx4⟩ : ∃ x, x = bytesL 0 2 := ⟨_, rfl⟩
  have l1 : x1.length = 2 := by rw [hx1, bytesL_len]
  have l2 : x2.length = 2 := by rw [hx2, bytesL_len]
  have l3 : x3.length = 2 := by rw [hx3, bytesL_len]
  have l4 : x4.length = 2 := by rw [hx4, bytesL_len]
  have FIN : Hid (x1 ++ (x2 ++ (x3 ++ (x4 ++ b))) = udpL A B b) := by
    show _ = _
    unfold udpL
    rw [hx1, hx2, hx3, hx4, hG, bytes_nought]
  have HX1 : Hid (bytesL A 2 = x1) := hx1.symm
  have HX2 : Hid (bytesL B 2 = x2) := hx2.symm
  have HX3 : Hid (bytesL G 2 = x3) := hx3.symm
  have HX4 : Hid (bytesL 0 2 = x4) := hx4.symm
  clear hx1 hx2 hx3 hx4 hG
  go_enter Try.func14, Try.ntmps14
  go_wp2_with fail
  refine (rport_yes A _ hA).mono ?_
  rintro e u1 ⟨rfl, rfl⟩
  go_wp2_with fail
  refine (rport_yes B _ hB).mono ?_
  rintro e u2 ⟨rfl, rfl⟩
  go_wp2_with fail
  refine (port_rtwo A _ hA).mono ?_
  rintro e u3 ⟨rfl, b3⟩
  rw [HX1.out]
  go_wp2_with fail
  refine (port_rtwo B _ hB).mono ?_
  rintro e u4 ⟨rfl, b4⟩
  rw [HX2.out]
  go_wp2_with fail
  refine (port_rtwo G _ G1).mono ?_
  rintro e u5 ⟨rfl, b5⟩
  rw [HX3.out]
  go_wp2_with fail
  refine (port_rtwo 0 _ (by omega)).mono ?_
  rintro e u6 ⟨rfl, b6⟩
  rw [HX4.out]
  go_wp2_with fail
  go_returns
  refine ⟨?_, bel_trans (bel_trans (bel_trans b3 b4) b5) b6⟩
  rw [← FIN.out]
  rfl
end Go.Proofs.Ytjecmkibddmheaa
