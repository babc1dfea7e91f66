/-
  The reference's Put: what it answers of a right header.
-/
import Derived.Test.YtmblgiidfknodaaIp4Put
import Derived.Deep.Cut
import Derived.Deep.CutRange
namespace Go.Proofs.Ytmblgiidfknodaa
open Go.RowKit Oc Ip4 Go.Deep
set_option linter.unusedVariables false

theorem two_cells (w : World) (M : Nat) (h : M < 65536) (j : Nat) (hj : j < (bytesL M 2).length) : (w.alloc (.cells #[.int .u8 ((M : Int) / 256), .int .u8 ((M : Int) % 256)] 5)).cell? ((⟨w.heap.size, 0, none⟩ : Addr).add j) = some (.int .u8 ((bytesL M 2)[j].toNat : Int)) := by
  have hc := World.rowIs.cell (World.rowIs_alloc w #[.int .u8 ((M : Int) / 256), .int .u8 ((M : Int) % 256)] 5 (fun i => if i = 0 then .int .u8 ((M : Int) / 256) else .int .u8 ((M : Int) % 256)) (fun i hi => by
    simp at hi
    have e : i = 0 ∨ i = 1 := by omega
    rcases e with rfl | rfl <;> rfl)) (i := j) (by simpa [bytesL_len] using hj)
  rw [Addr.add_lit, Nat.zero_add, hc]
  rw [bytesL_len] at hj
  have e : j = 0 ∨ j = 1 := by omega
  rcases e with rfl | rfl
  · simp only [bytes_two]
    simp
    omega
  · simp only [bytes_two]
    simp
set_option maxHeartbeats 800000 in
theorem rtwo_any (N : Nat) (w : World) (h : N < 65536) : Calls Try.prog 26 #[.int .i64 (N : Int)] w fun e w' => e = .returned (.string (bsL (bytesL N 2))) ∧ Below w.heap.size w w' := by
  have hback := run_convert_bytes_back (P := Try.prog) (w.alloc (.cells #[.int .u8 ((N : Int) / 256), .int .u8 ((N : Int) % 256)] 5)) 39 9 5 ⟨w.heap.size, 0, none⟩ 2 (bytesL N 2) Try.underlying39 Try.underlying5 Try.underlying9 (two_cells w N h)
  rw [bytesL_len] at hback
  go_enter Try.func26, Try.ntmps26
  go_wp2_with fail
  go_ret
  exact ⟨rfl, (Below.refl _ _).alloc (Nat.le_refl _) _⟩
/-- Two bytes in a block, as a string. -/
theorem conv_two (w : World) (g a b : Nat) (ha : a < 256) (hb : b < 256) (h : Blk w g 5 #[.int .u8 (a : Int), .int .u8 (b : Int)]) :
    (convert 39 9 (.slice (some ⟨g, 0, none⟩) 2 2)).run Try.prog w = .ok (.string (bsL [Ip4.B a, Ip4.B b])) w := by
  have hback := run_convert_bytes_back (P := Try.prog) w 39 9 5 ⟨g, 0, none⟩ 2 [Ip4.B a, Ip4.B b] Try.underlying39 Try.underlying5 Try.underlying9 (fun j hj => by
    rw [Addr.add_lit, Nat.zero_add, h.cell j]
    have e : j = 0 ∨ j = 1 := by simp at hj; omega
    rcases e with rfl | rfl
    · simp [B_lt ha]
    · simp [B_lt hb])
  exact hback
set_option maxHeartbeats 6400000 in
theorem rhead_ok (w : World) (T I F O L P n M : Nat) (s d q : List UInt8) (hR : RightP ⟨T, I, F, O, L, P, s, d, q⟩) (hb : 20 + q.length + n ≤ 65535) (M1 : M < 65536) : Calls Try.prog 22 #[.agg #[.int .i64 (T : Int), .int .i64 (I : Int), .int .i64 (F : Int), .int .i64 (O : Int), .int .i64 (L : Int), .int .i64 (P : Int), .string (bsL s), .string (bsL d), .string (bsL q)], .int .i64 (n : Int), .int .i64 (M : Int)] w fun e w' => e = .returned (.string (bsL (headS (64 + (20 + q.length) / 4) T (20 + q.length + n) I (8192 * F + O) L P M s d q))) ∧ Below w.heap.size w w' := by
  have B1 : Hid (Below w.heap.size w (w.alloc (.cells #[.int .i64 (T : Int), .int .i64 (I : Int), .int .i64 (F : Int), .int .i64 (O : Int), .int .i64 (L : Int), .int .i64 (P : Int), .string (bsL s), .string (bsL d), .string (bsL q)] 28))) := bel_alloc _ _
  have K0 : Hid (Blk (w.alloc (.cells #[.int .i64 (T : Int), .int .i64 (I : Int), .int .i64 (F : Int), .int .i64 (O : Int), .int .i64 (L : Int), .int .i64 (P : Int), .string (bsL s), .string (bsL d), .string (bsL q)] 28)) w.heap.size 28 #[.int .i64 (T : Int), .int .i64 (I : Int), .int .i64 (F : Int), .int .i64 (O : Int), .int .i64 (L : Int), .int .i64 (P : Int), .string (bsL s), .string (bsL d), .string (bsL q)]) := Blk.new _ _ _
  obtain ⟨r1, r2, r3, r4, r5, r6, r7, r8, r9, r10⟩ := hR
  simp only at r1 r2 r3 r4 r5 r6 r7 r8 r9 r10
  have T1 : T < 256 := by omega
  have L1 : L < 256 := by omega
  have P1 : P < 256 := by omega
  have I1 : I < 65536 := by omega
  obtain ⟨Sz, hSz⟩ : ∃ Sz, Sz = 20 + q.length := ⟨_, rfl⟩
  obtain ⟨X, hX⟩ : ∃ X, X = Sz / 4 := ⟨_, rfl⟩
  obtain ⟨A, hA⟩ : ∃ A, A = 64 + X := ⟨_, rfl⟩
  obtain ⟨Ln, hLn⟩ : ∃ Ln, Ln = Sz + n := ⟨_, rfl⟩
  obtain ⟨G, hG⟩ : ∃ G, G = 8192 * F := ⟨_, rfl⟩
  obtain ⟨H, hH⟩ : ∃ H, H = 8192 * F + O := ⟨_, rfl⟩
  have A1 : A < 256 := by omega
  have Ln1 : Ln < 65536 := by omega
  have H1 : H < 65536 := by omega
  have z1 : (20 : Int) + (q.length : Int) = (Sz : Int) := by omega
  have z2 : (Sz : Int) / 4 = (X : Int) := by omega
  have z3 : IntKind.i64.wrap (X : Int) = (X : Int) := by rw [IntKind.wrap_i64]; omega
  have z3a : (64 : Int) + (X : Int) = (A : Int) := by omega
  have z3b : IntKind.i64.wrap (A : Int) = (A : Int) := by rw [IntKind.wrap_i64]; omega
  have z3c : IntKind.u8.wrap (A : Int) = (A : Int) := by rw [IntKind.wrap_u8]; omega
  have z4 : (Sz : Int) + (n : Int) = (Ln : Int) := by omega
  have z5 : IntKind.i64.wrap (Ln : Int) = (Ln : Int) := by rw [IntKind.wrap_i64]; omega
  have z6 : (8192 : Int) * (F : Int) = (G : Int) := by omega
  have z7 : IntKind.i64.wrap (G : Int) = (G : Int) := by rw [IntKind.wrap_i64]; omega
  have z8 : (G : Int) + (O : Int) = (H : Int) := by omega
  have z9 : IntKind.i64.wrap (H : Int) = (H : Int) := by rw [IntKind.wrap_i64]; omega
  have q40 : q.length ≤ 40 := r9
  have cq : ¬ 9223372036854775807 < 20 + q.length := by omega
  have Sz1 : Sz ≤ 60 := by omega
  have LS : s.length = 4 := r7
  have LD : d.length = 4 := r8
  obtain ⟨x3, hx3⟩ : ∃ x, x = bytesL Ln 2 := ⟨_, rfl⟩
  obtain ⟨x4, hx4⟩ : ∃ x, x = bytesL I 2 := ⟨_, rfl⟩
  obtain ⟨x5, hx5⟩ : ∃ x, x = bytesL H 2 := ⟨_, rfl⟩
  obtain ⟨x6, hx6⟩ : ∃ x, x = bytesL M 2 := ⟨_, rfl⟩
  have lx3 : x3.length = 2 := by rw [hx3, bytesL_len]
  have lx4 : x4.length = 2 := by rw [hx4, bytesL_len]
  have lx5 : x5.length = 2 := by rw [hx5, bytesL_len]
  have lx6 : x6.length = 2 := by rw [hx6, bytesL_len]
  have HX3 : Hid (bytesL Ln 2 = x3) := hx3.symm
  have HX4 : Hid (bytesL I 2 = x4) := hx4.symm
  have HX5 : Hid (bytesL H 2 = x5) := hx5.symm
  have HX6 : Hid (bytesL M 2 = x6) := hx6.symm
  have t1 : IntKind.u8.wrap (T : Int) = (T : Int) := by rw [IntKind.wrap_u8]; omega
  have t2 : IntKind.u8.wrap (L : Int) = (L : Int) := by rw [IntKind.wrap_u8]; omega
  have t3 : IntKind.u8.wrap (P : Int) = (P : Int) := by rw [IntKind.wrap_u8]; omega
  have FIN : Hid ([Ip4.B A, Ip4.B T] ++ (x3 ++ (x4 ++ (x5 ++ ([Ip4.B L, Ip4.B P] ++ (x6 ++ (s ++ (d ++ q))))))) = headS (64 + (20 + q.length) / 4) T (20 + q.length + n) I (8192 * F + O) L P M s d q) := by
    show _ = _
    unfold headS frontL
    rw [hx3, hx4, hx5, hx6, hH, hLn, hSz, one_is, one_is, one_is, one_is, Nat.mod_eq_of_lt T1, Nat.mod_eq_of_lt L1, Nat.mod_eq_of_lt P1, Nat.mod_eq_of_lt (by omega), show 64 + (20 + q.length) / 4 = A by omega]
    simp only [List.append_assoc, List.cons_append, List.nil_append]
  clear r1 r2 r3 r4 r5 r6 r7 r8 r9 r10 hSz hX hA hLn hG hH hb hx3 hx4 hx5 hx6
  go_enter Try.func22, Try.ntmps22
  go_upto_region 2 with fail
  go_cut [8] from 9 (fun s8 wx => s8 = .string (bsL ([Ip4.B A, Ip4.B T] ++ (x3 ++ (x4 ++ x5)))) ∧ Below w.heap.size w wx ∧ Blk wx w.heap.size 28 #[.int .i64 (T : Int), .int .i64 (I : Int), .int .i64 (F : Int), .int .i64 (O : Int), .int .i64 (L : Int), .int .i64 (P : Int), .string (bsL s), .string (bsL d), .string (bsL q)])
  case first =>
    refine wp_region_noPanic ?_
    have KD : Hid (Blk (w.alloc (.cells #[.int .i64 (T : Int), .int .i64 (I : Int), .int .i64 (F : Int), .int .i64 (O : Int), .int .i64 (L : Int), .int .i64 (P : Int), .string (bsL s), .string (bsL d), .string (bsL q)] 28)).drew w.heap.size 28 #[.int .i64 (T : Int), .int .i64 (I : Int), .int .i64 (F : Int), .int .i64 (O : Int), .int .i64 (L : Int), .int .i64 (P : Int), .string (bsL s), .string (bsL d), .string (bsL q)]) := K0.out.drew
    have BD : Hid (Below w.heap.size w (w.alloc (.cells #[.int .i64 (T : Int), .int .i64 (I : Int), .int .i64 (F : Int), .int .i64 (O : Int), .int .i64 (L : Int), .int .i64 (P : Int), .string (bsL s), .string (bsL d), .string (bsL q)] 28)).drew) := B1.out.drew
    refine wp_region_held_drew (S := (fun w' => Blk w' w.heap.size 28 #[.int .i64 (T : Int), .int .i64 (I : Int), .int .i64 (F : Int), .int .i64 (O : Int), .int .i64 (L : Int), .int .i64 (P : Int), .string (bsL s), .string (bsL d), .string (bsL q)])) (by kernel_rfl) KD.out (fun hHeld => ?_)
    clear hHeld
    generalize (w.alloc (.cells #[.int .i64 (T : Int), .int .i64 (I : Int), .int .i64 (F : Int), .int .i64 (O : Int), .int .i64 (L : Int), .int .i64 (P : Int), .string (bsL s), .string (bsL d), .string (bsL q)] 28)).drew = v0 at KD BD ⊢
    have KH0 : Hid (Blk v0 w.heap.size 28 #[.int .i64 (T : Int), .int .i64 (I : Int), .int .i64 (F : Int), .int .i64 (O : Int), .int .i64 (L : Int), .int .i64 (P : Int), .string (bsL s), .string (bsL d), .string (bsL q)]) := KD.out
    have BH0 : Hid (Below w.heap.size w v0) := BD.out
    clear KD BD
    refine wpAnyH_take (i := 0) (v := ?_) rfl (by kernel_rfl) (by kernel_rfl) (by kernel_rfl) (fun _ _ _ h => h) (Or.inl ⟨by rfl, ?_⟩) KH0.out ?_
    rotate_left
    · intro w hSw; go_simp; first | done | with_reducible rfl
    simp only [List.getElem_toArray, List.getElem_cons_zero, Act.put, List.setIfInBounds_toArray, List.set_cons_zero, List.set_cons_succ]
    refine wpAnyH_take (i := 1) (v := ?_) rfl (by kernel_rfl) (by kernel_rfl) (by kernel_rfl) (fun _ _ _ h => h) (Or.inl ⟨by rfl, ?_⟩) KH0.out ?_
    rotate_left
    · intro w hSw; go_simp; first | done | with_reducible rfl
    simp only [List.getElem_toArray, List.getElem_cons_zero, List.getElem_cons_succ, Act.put, List.setIfInBounds_toArray, List.set_cons_zero, List.set_cons_succ]
    refine wpAnyH_take (i := 2) (v := ?_) rfl (by kernel_rfl) (by kernel_rfl) (by kernel_rfl) (fun _ _ _ h => h) (Or.inl ⟨by rfl, ?_⟩) KH0.out ?_
    rotate_left
    · intro w hSw; go_simp; first | done | with_reducible rfl
    simp only [List.getElem_toArray, List.getElem_cons_zero, List.getElem_cons_succ, Act.put, List.setIfInBounds_toArray, List.set_cons_zero, List.set_cons_succ]
    refine wpAnyH_take (i := 3) (v := ?_) rfl (by kernel_rfl) (by kernel_rfl) (by kernel_rfl) (fun _ _ _ h => h) (Or.inl ⟨by rfl, ?_⟩) KH0.out ?_
    rotate_left
    · intro w hSw; go_simp; first | done | with_reducible rfl
    simp only [List.getElem_toArray, List.getElem_cons_zero, List.getElem_cons_succ, Act.put, List.setIfInBounds_toArray, List.set_cons_zero, List.set_cons_succ]
    refine wpAnyH_take (i := 4) (v := ?_) rfl (by kernel_rfl) (by kernel_rfl) (by kernel_rfl) (fun _ _ _ h => h) (Or.inl ⟨by rfl, ?_⟩) KH0.out ?_
    rotate_left
    · intro w hSw; go_simp; first | done | with_reducible rfl
    simp only [List.getElem_toArray, List.getElem_cons_zero, List.getElem_cons_succ, Act.put, List.setIfInBounds_toArray, List.set_cons_zero, List.set_cons_succ]
    refine wpAnyH_take (i := 5) (v := ?_) rfl (by kernel_rfl) (by kernel_rfl) (by kernel_rfl) (fun _ _ _ h => h) (Or.inl ⟨by rfl, ?_⟩) KH0.out ?_
    rotate_left
    · intro w hSw; have cl := hSw.cell 0; go_simp; first | done | with_reducible rfl
    simp only [List.getElem_toArray, List.getElem_cons_zero, List.getElem_cons_succ, Act.put, List.setIfInBounds_toArray, List.set_cons_zero, List.set_cons_succ]
    refine wpAnyH_take (i := 6) (v := ?_) rfl (by kernel_rfl) (by kernel_rfl) (by kernel_rfl) (fun _ _ _ h => h) (Or.inl ⟨by rfl, ?_⟩) KH0.out ?_
    rotate_left
    · intro w hSw; go_simp; first | done | with_reducible rfl
    simp only [List.getElem_toArray, List.getElem_cons_zero, List.getElem_cons_succ, Act.put, List.setIfInBounds_toArray, List.set_cons_zero, List.set_cons_succ]
    refine wpAnyH_take (i := 9) (v := ?_) rfl (by kernel_rfl) (by kernel_rfl) (by kernel_rfl) (fun _ _ _ h => h) (Or.inl ⟨by rfl, ?_⟩) KH0.out ?_
    rotate_left
    · intro w hSw; go_simp; first | done | with_reducible rfl
    simp only [List.getElem_toArray, List.getElem_cons_zero, List.getElem_cons_succ, Act.put, List.setIfInBounds_toArray, List.set_cons_zero, List.set_cons_succ]
    refine wpAnyH_take (i := 10) (v := ?_) rfl (by kernel_rfl) (by kernel_rfl) (by kernel_rfl) (fun _ _ _ h => h) (Or.inl ⟨by rfl, ?_⟩) KH0.out ?_
    rotate_left
    · intro w hSw; go_simp; first | done | with_reducible rfl
    simp only [List.getElem_toArray, List.getElem_cons_zero, List.getElem_cons_succ, Act.put, List.setIfInBounds_toArray, List.set_cons_zero, List.set_cons_succ]
    refine wpAnyH_take (i := 11) (v := ?_) rfl (by kernel_rfl) (by kernel_rfl) (by kernel_rfl) (fun _ _ _ h => h) (Or.inl ⟨by rfl, ?_⟩) KH0.out ?_
    rotate_left
    · intro w hSw; go_simp; first | done | with_reducible rfl
    simp only [List.getElem_toArray, List.getElem_cons_zero, List.getElem_cons_succ, Act.put, List.setIfInBounds_toArray, List.set_cons_zero, List.set_cons_succ]
    refine wpAnyH_take (i := 14) (v := ?_) rfl (by kernel_rfl) (by kernel_rfl) (by kernel_rfl) (fun _ _ _ h => h) (Or.inl ⟨by rfl, ?_⟩) KH0.out ?_
    rotate_left
    · intro w hSw; go_simp; first | done | with_reducible rfl
    simp only [List.getElem_toArray, List.getElem_cons_zero, List.getElem_cons_succ, Act.put, List.setIfInBounds_toArray, List.set_cons_zero, List.set_cons_succ]
    refine wpAnyH_take (i := 15) (v := ?_) rfl (by kernel_rfl) (by kernel_rfl) (by kernel_rfl) (fun _ _ _ h => h) (Or.inl ⟨by rfl, ?_⟩) KH0.out ?_
    rotate_left
    · intro w hSw; have cl := hSw.cell 1; go_simp; first | done | with_reducible rfl
    simp only [List.getElem_toArray, List.getElem_cons_zero, List.getElem_cons_succ, Act.put, List.setIfInBounds_toArray, List.set_cons_zero, List.set_cons_succ]
    refine wpAnyH_take (i := 18) (v := ?_) rfl (by kernel_rfl) (by kernel_rfl) (by kernel_rfl) (fun _ _ _ h => h) (Or.inl ⟨by rfl, ?_⟩) KH0.out ?_
    rotate_left
    · intro w hSw; go_simp; first | done | with_reducible rfl
    simp only [List.getElem_toArray, List.getElem_cons_zero, List.getElem_cons_succ, Act.put, List.setIfInBounds_toArray, List.set_cons_zero, List.set_cons_succ]
    refine wpAnyH_take (i := 19) (v := ?_) rfl (by kernel_rfl) (by kernel_rfl) (by kernel_rfl) (fun _ _ _ h => h) (Or.inl ⟨by rfl, ?_⟩) KH0.out ?_
    rotate_left
    · intro w hSw; have cl := hSw.cell 2; go_simp; first | done | with_reducible rfl
    simp only [List.getElem_toArray, List.getElem_cons_zero, List.getElem_cons_succ, Act.put, List.setIfInBounds_toArray, List.set_cons_zero, List.set_cons_succ]
    refine wpAnyH_take (i := 20) (v := ?_) rfl (by kernel_rfl) (by kernel_rfl) (by kernel_rfl) (fun _ _ _ h => h) (Or.inl ⟨by rfl, ?_⟩) KH0.out ?_
    rotate_left
    · intro w hSw; go_simp; first | done | with_reducible rfl
    simp only [List.getElem_toArray, List.getElem_cons_zero, List.getElem_cons_succ, Act.put, List.setIfInBounds_toArray, List.set_cons_zero, List.set_cons_succ]
    refine wpAnyH_take (i := 21) (v := ?_) rfl (by kernel_rfl) (by kernel_rfl) (by kernel_rfl) (fun _ _ _ h => h) (Or.inl ⟨by rfl, ?_⟩) KH0.out ?_
    rotate_left
    · intro w hSw; go_simp; first | done | with_reducible rfl
    simp only [List.getElem_toArray, List.getElem_cons_zero, List.getElem_cons_succ, Act.put, List.setIfInBounds_toArray, List.set_cons_zero, List.set_cons_succ]
    refine wpAnyH_take (i := 22) (v := ?_) rfl (by kernel_rfl) (by kernel_rfl) (by kernel_rfl) (fun _ _ _ h => h) (Or.inl ⟨by rfl, ?_⟩) KH0.out ?_
    rotate_left
    · intro w hSw; have cl := hSw.cell 3; go_simp; first | done | with_reducible rfl
    simp only [List.getElem_toArray, List.getElem_cons_zero, List.getElem_cons_succ, Act.put, List.setIfInBounds_toArray, List.set_cons_zero, List.set_cons_succ]
    refine wpAnyH_take (i := 23) (v := ?_) rfl (by kernel_rfl) (by kernel_rfl) (by kernel_rfl) (fun _ _ _ h => h) (Or.inl ⟨by rfl, ?_⟩) KH0.out ?_
    rotate_left
    · intro w hSw; go_simp; first | done | with_reducible rfl
    simp only [List.getElem_toArray, List.getElem_cons_zero, List.getElem_cons_succ, Act.put, List.setIfInBounds_toArray, List.set_cons_zero, List.set_cons_succ]
    refine wpAnyH_ready (rs := [7, 12]) (by kernel_rfl) (by simp) ?_
    refine AllReadyH.cons rfl (fun K hK => ?_) ?_
    · have nb := Blk.new v0 5 #[.int .u8 (A : Int), .int .u8 (T : Int)]
      have bb := bel_alloc v0 (.cells #[.int .u8 (A : Int), .int .u8 (T : Int)] 5)
      go_simp
      generalize v0.alloc (.cells #[.int .u8 (A : Int), .int .u8 (T : Int)] 5) = v1 at nb bb ⊢
      generalize v0.heap.size = g1 at nb ⊢
      have KB1 : Hid (Blk v1 g1 5 #[.int .u8 (A : Int), .int .u8 (T : Int)]) := nb
      have KH1 : Hid (Blk v1 w.heap.size 28 #[.int .i64 (T : Int), .int .i64 (I : Int), .int .i64 (F : Int), .int .i64 (O : Int), .int .i64 (L : Int), .int .i64 (P : Int), .string (bsL s), .string (bsL d), .string (bsL q)]) := KH0.out.since bb
      have BH1 : Hid (Below w.heap.size w v1) := bel_trans BH0.out bb
      clear nb bb
      refine hK.out _ _ KH1.out (fun hHeld => ?_)
      clear hK K hHeld
      refine wpAnyH_ready (rs := [8, 12]) (by kernel_rfl) (by simp) ?_
      refine AllReadyH.cons rfl (fun K hK => ?_) ?_
      · have cv := conv_two v1 _ _ _ A1 T1 KB1.out
        go_simp
        clear cv
        refine hK.out _ _ KH1.out (fun hHeld => ?_)
        clear hK K hHeld
        refine wpAnyH_ready (rs := [12]) (by kernel_rfl) (by simp) ?_
        refine AllReadyH.cons rfl (fun K hK => ?_) ?_
        · go_simp
          refine (rtwo_any Ln _ Ln1).mono ?_
          rintro e v2 ⟨rfl, bb⟩
          rw [HX3.out]
          have KH2 : Hid (Blk v2 w.heap.size 28 #[.int .i64 (T : Int), .int .i64 (I : Int), .int .i64 (F : Int), .int .i64 (O : Int), .int .i64 (L : Int), .int .i64 (P : Int), .string (bsL s), .string (bsL d), .string (bsL q)]) := KH1.out.since bb
          have BH2 : Hid (Below w.heap.size w v2) := bel_trans BH1.out bb
          clear bb
          go_wp2_with fail
          refine hK.out _ _ KH2.out (fun hHeld => ?_)
          clear hK K hHeld
          refine wpAnyH_take (i := 13) (v := ?_) rfl (by kernel_rfl) (by kernel_rfl) (by kernel_rfl) (fun _ _ _ h => h) (Or.inl ⟨by rfl, ?_⟩) KH2.out ?_
          rotate_left
          · intro w hSw; go_simp; first | done | with_reducible rfl
          simp only [List.getElem_toArray, List.getElem_cons_zero, List.getElem_cons_succ, Act.put, List.setIfInBounds_toArray, List.set_cons_zero, List.set_cons_succ]
          refine wpAnyH_ready (rs := [16]) (by kernel_rfl) (by simp) ?_
          refine AllReadyH.cons rfl (fun K hK => ?_) ?_
          · go_simp
            refine (rtwo_any I _ I1).mono ?_
            rintro e v3 ⟨rfl, bb⟩
            rw [HX4.out]
            have KH3 : Hid (Blk v3 w.heap.size 28 #[.int .i64 (T : Int), .int .i64 (I : Int), .int .i64 (F : Int), .int .i64 (O : Int), .int .i64 (L : Int), .int .i64 (P : Int), .string (bsL s), .string (bsL d), .string (bsL q)]) := KH2.out.since bb
            have BH3 : Hid (Below w.heap.size w v3) := bel_trans BH2.out bb
            clear bb
            go_wp2_with fail
            refine hK.out _ _ KH3.out (fun hHeld => ?_)
            clear hK K hHeld
            refine wpAnyH_take (i := 17) (v := ?_) rfl (by kernel_rfl) (by kernel_rfl) (by kernel_rfl) (fun _ _ _ h => h) (Or.inl ⟨by rfl, ?_⟩) KH3.out ?_
            rotate_left
            · intro w hSw; go_simp; first | done | with_reducible rfl
            simp only [List.getElem_toArray, List.getElem_cons_zero, List.getElem_cons_succ, Act.put, List.setIfInBounds_toArray, List.set_cons_zero, List.set_cons_succ]
            refine wpAnyH_ready (rs := [24]) (by kernel_rfl) (by simp) ?_
            refine AllReadyH.cons rfl (fun K hK => ?_) ?_
            · go_simp
              refine (rtwo_any H _ H1).mono ?_
              rintro e v4 ⟨rfl, bb⟩
              rw [HX5.out]
              have KH4 : Hid (Blk v4 w.heap.size 28 #[.int .i64 (T : Int), .int .i64 (I : Int), .int .i64 (F : Int), .int .i64 (O : Int), .int .i64 (L : Int), .int .i64 (P : Int), .string (bsL s), .string (bsL d), .string (bsL q)]) := KH3.out.since bb
              have BH4 : Hid (Below w.heap.size w v4) := bel_trans BH3.out bb
              clear bb
              go_wp2_with fail
              refine hK.out _ _ KH4.out (fun hHeld => ?_)
              clear hK K hHeld
              refine wpAnyH_take (i := 25) (v := ?_) rfl (by kernel_rfl) (by kernel_rfl) (by kernel_rfl) (fun _ _ _ h => h) (Or.inl ⟨by rfl, ?_⟩) KH4.out ?_
              rotate_left
              · intro w hSw; go_simp; first | done | with_reducible rfl
              simp only [List.getElem_toArray, List.getElem_cons_zero, List.getElem_cons_succ, Act.put, List.setIfInBounds_toArray, List.set_cons_zero, List.set_cons_succ]
              refine wpAnyH_take (i := 26) (v := ?_) rfl (by kernel_rfl) (by kernel_rfl) (by kernel_rfl) (fun _ _ _ h => h) (Or.inl ⟨by rfl, ?_⟩) KH4.out ?_
              rotate_left
              · intro w hSw; go_simp; first | done | with_reducible rfl
              simp only [List.getElem_toArray, List.getElem_cons_zero, List.getElem_cons_succ, Act.put, List.setIfInBounds_toArray, List.set_cons_zero, List.set_cons_succ]
              refine wpAnyH_done (by kernel_rfl) ?_ _
              refine NoPanic.normal ?_
              go_wp2_with fail
              go_meet
              case rel => exact ⟨rfl, BH4.out, KH4.out⟩
            exact AllReadyH.nil
          exact AllReadyH.nil
        exact AllReadyH.nil
      refine AllReadyH.cons rfl (fun K hK => ?_) ?_
      · go_simp
        refine (rtwo_any Ln _ Ln1).mono ?_
        rintro e v2 ⟨rfl, bb⟩
        rw [HX3.out]
        have KB2 : Hid (Blk v2 _ 5 #[.int .u8 (A : Int), .int .u8 (T : Int)]) := KB1.out.since bb
        have KH2 : Hid (Blk v2 w.heap.size 28 #[.int .i64 (T : Int), .int .i64 (I : Int), .int .i64 (F : Int), .int .i64 (O : Int), .int .i64 (L : Int), .int .i64 (P : Int), .string (bsL s), .string (bsL d), .string (bsL q)]) := KH1.out.since bb
        have BH2 : Hid (Below w.heap.size w v2) := bel_trans BH1.out bb
        clear bb
        go_wp2_with fail
        refine hK.out _ _ KH2.out (fun hHeld => ?_)
        clear hK K hHeld
        refine wpAnyH_ready (rs := [8, 16]) (by kernel_rfl) (by simp) ?_
        refine AllReadyH.cons rfl (fun K hK => ?_) ?_
        · have cv := conv_two v2 _ _ _ A1 T1 KB2.out
          go_simp
          clear cv
          refine hK.out _ _ KH2.out (fun hHeld => ?_)
          clear hK K hHeld
          refine wpAnyH_take (i := 13) (v := ?_) rfl (by kernel_rfl) (by kernel_rfl) (by kernel_rfl) (fun _ _ _ h => h) (Or.inl ⟨by rfl, ?_⟩) KH2.out ?_
          rotate_left
          · intro w hSw; go_simp; first | done | with_reducible rfl
          simp only [List.getElem_toArray, List.getElem_cons_zero, List.getElem_cons_succ, Act.put, List.setIfInBounds_toArray, List.set_cons_zero, List.set_cons_succ]
          refine wpAnyH_ready (rs := [16]) (by kernel_rfl) (by simp) ?_
          refine AllReadyH.cons rfl (fun K hK => ?_) ?_
          · go_simp
            refine (rtwo_any I _ I1).mono ?_
            rintro e v3 ⟨rfl, bb⟩
            rw [HX4.out]
            have KH3 : Hid (Blk v3 w.heap.size 28 #[.int .i64 (T : Int), .int .i64 (I : Int), .int .i64 (F : Int), .int .i64 (O : Int), .int .i64 (L : Int), .int .i64 (P : Int), .string (bsL s), .string (bsL d), .string (bsL q)]) := KH2.out.since bb
            have BH3 : Hid (Below w.heap.size w v3) := bel_trans BH2.out bb
            clear bb
            go_wp2_with fail
            refine hK.out _ _ KH3.out (fun hHeld => ?_)
            clear hK K hHeld
            refine wpAnyH_take (i := 17) (v := ?_) rfl (by kernel_rfl) (by kernel_rfl) (by kernel_rfl) (fun _ _ _ h => h) (Or.inl ⟨by rfl, ?_⟩) KH3.out ?_
            rotate_left
            · intro w hSw; go_simp; first | done | with_reducible rfl
            simp only [List.getElem_toArray, List.getElem_cons_zero, List.getElem_cons_succ, Act.put, List.setIfInBounds_toArray, List.set_cons_zero, List.set_cons_succ]
            refine wpAnyH_ready (rs := [24]) (by kernel_rfl) (by simp) ?_
            refine AllReadyH.cons rfl (fun K hK => ?_) ?_
            · go_simp
              refine (rtwo_any H _ H1).mono ?_
              rintro e v4 ⟨rfl, bb⟩
              rw [HX5.out]
              have KH4 : Hid (Blk v4 w.heap.size 28 #[.int .i64 (T : Int), .int .i64 (I : Int), .int .i64 (F : Int), .int .i64 (O : Int), .int .i64 (L : Int), .int .i64 (P : Int), .string (bsL s), .string (bsL d), .string (bsL q)]) := KH3.out.since bb
              have BH4 : Hid (Below w.heap.size w v4) := bel_trans BH3.out bb
              clear bb
              go_wp2_with fail
              refine hK.out _ _ KH4.out (fun hHeld => ?_)
              clear hK K hHeld
              refine wpAnyH_take (i := 25) (v := ?_) rfl (by kernel_rfl) (by kernel_rfl) (by kernel_rfl) (fun _ _ _ h => h) (Or.inl ⟨by rfl, ?_⟩) KH4.out ?_
              rotate_left
              · intro w hSw; go_simp; first | done | with_reducible rfl
              simp only [List.getElem_toArray, List.getElem_cons_zero, List.getElem_cons_succ, Act.put, List.setIfInBounds_toArray, List.set_cons_zero, List.set_cons_succ]
              refine wpAnyH_take (i := 26) (v := ?_) rfl (by kernel_rfl) (by kernel_rfl) (by kernel_rfl) (fun _ _ _ h => h) (Or.inl ⟨by rfl, ?_⟩) KH4.out ?_
              rotate_left
              · intro w hSw; go_simp; first | done | with_reducible rfl
              simp only [List.getElem_toArray, List.getElem_cons_zero, List.getElem_cons_succ, Act.put, List.setIfInBounds_toArray, List.set_cons_zero, List.set_cons_succ]
              refine wpAnyH_done (by kernel_rfl) ?_ _
              refine NoPanic.normal ?_
              go_wp2_with fail
              go_meet
              case rel => exact ⟨rfl, BH4.out, KH4.out⟩
            exact AllReadyH.nil
          exact AllReadyH.nil
        refine AllReadyH.cons rfl (fun K hK => ?_) ?_
        · go_simp
          refine (rtwo_any I _ I1).mono ?_
          rintro e v3 ⟨rfl, bb⟩
          rw [HX4.out]
          have KB3 : Hid (Blk v3 _ 5 #[.int .u8 (A : Int), .int .u8 (T : Int)]) := KB2.out.since bb
          have KH3 : Hid (Blk v3 w.heap.size 28 #[.int .i64 (T : Int), .int .i64 (I : Int), .int .i64 (F : Int), .int .i64 (O : Int), .int .i64 (L : Int), .int .i64 (P : Int), .string (bsL s), .string (bsL d), .string (bsL q)]) := KH2.out.since bb
          have BH3 : Hid (Below w.heap.size w v3) := bel_trans BH2.out bb
          clear bb
          go_wp2_with fail
          refine hK.out _ _ KH3.out (fun hHeld => ?_)
          clear hK K hHeld
          refine wpAnyH_ready (rs := [8, 24]) (by kernel_rfl) (by simp) ?_
          refine AllReadyH.cons rfl (fun K hK => ?_) ?_
          · have cv := conv_two v3 _ _ _ A1 T1 KB3.out
            go_simp
            clear cv
            refine hK.out _ _ KH3.out (fun hHeld => ?_)
            clear hK K hHeld
            refine wpAnyH_take (i := 13) (v := ?_) rfl (by kernel_rfl) (by kernel_rfl) (by kernel_rfl) (fun _ _ _ h => h) (Or.inl ⟨by rfl, ?_⟩) KH3.out ?_
            rotate_left
            · intro w hSw; go_simp; first | done | with_reducible rfl
            simp only [List.getElem_toArray, List.getElem_cons_zero, List.getElem_cons_succ, Act.put, List.setIfInBounds_toArray, List.set_cons_zero, List.set_cons_succ]
            refine wpAnyH_take (i := 17) (v := ?_) rfl (by kernel_rfl) (by kernel_rfl) (by kernel_rfl) (fun _ _ _ h => h) (Or.inl ⟨by rfl, ?_⟩) KH3.out ?_
            rotate_left
            · intro w hSw; go_simp; first | done | with_reducible rfl
            simp only [List.getElem_toArray, List.getElem_cons_zero, List.getElem_cons_succ, Act.put, List.setIfInBounds_toArray, List.set_cons_zero, List.set_cons_succ]
            refine wpAnyH_ready (rs := [24]) (by kernel_rfl) (by simp) ?_
            refine AllReadyH.cons rfl (fun K hK => ?_) ?_
            · go_simp
              refine (rtwo_any H _ H1).mono ?_
              rintro e v4 ⟨rfl, bb⟩
              rw [HX5.out]
              have KH4 : Hid (Blk v4 w.heap.size 28 #[.int .i64 (T : Int), .int .i64 (I : Int), .int .i64 (F : Int), .int .i64 (O : Int), .int .i64 (L : Int), .int .i64 (P : Int), .string (bsL s), .string (bsL d), .string (bsL q)]) := KH3.out.since bb
              have BH4 : Hid (Below w.heap.size w v4) := bel_trans BH3.out bb
              clear bb
              go_wp2_with fail
              refine hK.out _ _ KH4.out (fun hHeld => ?_)
              clear hK K hHeld
              refine wpAnyH_take (i := 25) (v := ?_) rfl (by kernel_rfl) (by kernel_rfl) (by kernel_rfl) (fun _ _ _ h => h) (Or.inl ⟨by rfl, ?_⟩) KH4.out ?_
              rotate_left
              · intro w hSw; go_simp; first | done | with_reducible rfl
              simp only [List.getElem_toArray, List.getElem_cons_zero, List.getElem_cons_succ, Act.put, List.setIfInBounds_toArray, List.set_cons_zero, List.set_cons_succ]
              refine wpAnyH_take (i := 26) (v := ?_) rfl (by kernel_rfl) (by kernel_rfl) (by kernel_rfl) (fun _ _ _ h => h) (Or.inl ⟨by rfl, ?_⟩) KH4.out ?_
              rotate_left
              · intro w hSw; go_simp; first | done | with_reducible rfl
              simp only [List.getElem_toArray, List.getElem_cons_zero, List.getElem_cons_succ, Act.put, List.setIfInBounds_toArray, List.set_cons_zero, List.set_cons_succ]
              refine wpAnyH_done (by kernel_rfl) ?_ _
              refine NoPanic.normal ?_
              go_wp2_with fail
              go_meet
              case rel => exact ⟨rfl, BH4.out, KH4.out⟩
            exact AllReadyH.nil
          refine AllReadyH.cons rfl (fun K hK => ?_) ?_
          · go_simp
            refine (rtwo_any H _ H1).mono ?_
            rintro e v4 ⟨rfl, bb⟩
            rw [HX5.out]
            have KB4 : Hid (Blk v4 _ 5 #[.int .u8 (A : Int), .int .u8 (T : Int)]) := KB3.out.since bb
            have KH4 : Hid (Blk v4 w.heap.size 28 #[.int .i64 (T : Int), .int .i64 (I : Int), .int .i64 (F : Int), .int .i64 (O : Int), .int .i64 (L : Int), .int .i64 (P : Int), .string (bsL s), .string (bsL d), .string (bsL q)]) := KH3.out.since bb
            have BH4 : Hid (Below w.heap.size w v4) := bel_trans BH3.out bb
            clear bb
            go_wp2_with fail
            refine hK.out _ _ KH4.out (fun hHeld => ?_)
            clear hK K hHeld
            refine wpAnyH_ready (rs := [8]) (by kernel_rfl) (by simp) ?_
            refine AllReadyH.cons rfl (fun K hK => ?_) ?_
            · have cv := conv_two v4 _ _ _ A1 T1 KB4.out
              go_simp
              clear cv
              refine hK.out _ _ KH4.out (fun hHeld => ?_)
              clear hK K hHeld
              refine wpAnyH_take (i := 13) (v := ?_) rfl (by kernel_rfl) (by kernel_rfl) (by kernel_rfl) (fun _ _ _ h => h) (Or.inl ⟨by rfl, ?_⟩) KH4.out ?_
              rotate_left
              · intro w hSw; go_simp; first | done | with_reducible rfl
              simp only [List.getElem_toArray, List.getElem_cons_zero, List.getElem_cons_succ, Act.put, List.setIfInBounds_toArray, List.set_cons_zero, List.set_cons_succ]
              refine wpAnyH_take (i := 17) (v := ?_) rfl (by kernel_rfl) (by kernel_rfl) (by kernel_rfl) (fun _ _ _ h => h) (Or.inl ⟨by rfl, ?_⟩) KH4.out ?_
              rotate_left
              · intro w hSw; go_simp; first | done | with_reducible rfl
              simp only [List.getElem_toArray, List.getElem_cons_zero, List.getElem_cons_succ, Act.put, List.setIfInBounds_toArray, List.set_cons_zero, List.set_cons_succ]
              refine wpAnyH_take (i := 25) (v := ?_) rfl (by kernel_rfl) (by kernel_rfl) (by kernel_rfl) (fun _ _ _ h => h) (Or.inl ⟨by rfl, ?_⟩) KH4.out ?_
              rotate_left
              · intro w hSw; go_simp; first | done | with_reducible rfl
              simp only [List.getElem_toArray, List.getElem_cons_zero, List.getElem_cons_succ, Act.put, List.setIfInBounds_toArray, List.set_cons_zero, List.set_cons_succ]
              refine wpAnyH_take (i := 26) (v := ?_) rfl (by kernel_rfl) (by kernel_rfl) (by kernel_rfl) (fun _ _ _ h => h) (Or.inl ⟨by rfl, ?_⟩) KH4.out ?_
              rotate_left
              · intro w hSw; go_simp; first | done | with_reducible rfl
              simp only [List.getElem_toArray, List.getElem_cons_zero, List.getElem_cons_succ, Act.put, List.setIfInBounds_toArray, List.set_cons_zero, List.set_cons_succ]
              refine wpAnyH_done (by kernel_rfl) ?_ _
              refine NoPanic.normal ?_
              go_wp2_with fail
              go_meet
              case rel => exact ⟨rfl, BH4.out, KH4.out⟩
            exact AllReadyH.nil
          exact AllReadyH.nil
        exact AllReadyH.nil
      exact AllReadyH.nil
    refine AllReadyH.cons rfl (fun K hK => ?_) ?_
    · go_simp
      refine (rtwo_any Ln _ Ln1).mono ?_
      rintro e v1 ⟨rfl, bb⟩
      rw [HX3.out]
      have KH1 : Hid (Blk v1 w.heap.size 28 #[.int .i64 (T : Int), .int .i64 (I : Int), .int .i64 (F : Int), .int .i64 (O : Int), .int .i64 (L : Int), .int .i64 (P : Int), .string (bsL s), .string (bsL d), .string (bsL q)]) := KH0.out.since bb
      have BH1 : Hid (Below w.heap.size w v1) := bel_trans BH0.out bb
      clear bb
      go_wp2_with fail
      refine hK.out _ _ KH1.out (fun hHeld => ?_)
      clear hK K hHeld
      refine wpAnyH_ready (rs := [7, 16]) (by kernel_rfl) (by simp) ?_
      refine AllReadyH.cons rfl (fun K hK => ?_) ?_
      · have nb := Blk.new v1 5 #[.int .u8 (A : Int), .int .u8 (T : Int)]
        have bb := bel_alloc v1 (.cells #[.int .u8 (A : Int), .int .u8 (T : Int)] 5)
        go_simp
        generalize v1.alloc (.cells #[.int .u8 (A : Int), .int .u8 (T : Int)] 5) = v2 at nb bb ⊢
        generalize v1.heap.size = g2 at nb ⊢
        have KB2 : Hid (Blk v2 g2 5 #[.int .u8 (A : Int), .int .u8 (T : Int)]) := nb
        have KH2 : Hid (Blk v2 w.heap.size 28 #[.int .i64 (T : Int), .int .i64 (I : Int), .int .i64 (F : Int), .int .i64 (O : Int), .int .i64 (L : Int), .int .i64 (P : Int), .string (bsL s), .string (bsL d), .string (bsL q)]) := KH1.out.since bb
        have BH2 : Hid (Below w.heap.size w v2) := bel_trans BH1.out bb
        clear nb bb
        refine hK.out _ _ KH2.out (fun hHeld => ?_)
        clear hK K hHeld
        refine wpAnyH_ready (rs := [8, 16]) (by kernel_rfl) (by simp) ?_
        refine AllReadyH.cons rfl (fun K hK => ?_) ?_
        · have cv := conv_two v2 _ _ _ A1 T1 KB2.out
          go_simp
          clear cv
          refine hK.out _ _ KH2.out (fun hHeld => ?_)
          clear hK K hHeld
          refine wpAnyH_take (i := 13) (v := ?_) rfl (by kernel_rfl) (by kernel_rfl) (by kernel_rfl) (fun _ _ _ h => h) (Or.inl ⟨by rfl, ?_⟩) KH2.out ?_
          rotate_left
          · intro w hSw; go_simp; first | done | with_reducible rfl
          simp only [List.getElem_toArray, List.getElem_cons_zero, List.getElem_cons_succ, Act.put, List.setIfInBounds_toArray, List.set_cons_zero, List.set_cons_succ]
          refine wpAnyH_ready (rs := [16]) (by kernel_rfl) (by simp) ?_
          refine AllReadyH.cons rfl (fun K hK => ?_) ?_
          · go_simp
            refine (rtwo_any I _ I1).mono ?_
            rintro e v3 ⟨rfl, bb⟩
            rw [HX4.out]
            have KH3 : Hid (Blk v3 w.heap.size 28 #[.int .i64 (T : Int), .int .i64 (I : Int), .int .i64 (F : Int), .int .i64 (O : Int), .int .i64 (L : Int), .int .i64 (P : Int), .string (bsL s), .string (bsL d), .string (bsL q)]) := KH2.out.since bb
            have BH3 : Hid (Below w.heap.size w v3) := bel_trans BH2.out bb
            clear bb
            go_wp2_with fail
            refine hK.out _ _ KH3.out (fun hHeld => ?_)
            clear hK K hHeld
            refine wpAnyH_take (i := 17) (v := ?_) rfl (by kernel_rfl) (by kernel_rfl) (by kernel_rfl) (fun _ _ _ h => h) (Or.inl ⟨by rfl, ?_⟩) KH3.out ?_
            rotate_left
            · intro w hSw; go_simp; first | done | with_reducible rfl
            simp only [List.getElem_toArray, List.getElem_cons_zero, List.getElem_cons_succ, Act.put, List.setIfInBounds_toArray, List.set_cons_zero, List.set_cons_succ]
            refine wpAnyH_ready (rs := [24]) (by kernel_rfl) (by simp) ?_
            refine AllReadyH.cons rfl (fun K hK => ?_) ?_
            · go_simp
              refine (rtwo_any H _ H1).mono ?_
              rintro e v4 ⟨rfl, bb⟩
              rw [HX5.out]
              have KH4 : Hid (Blk v4 w.heap.size 28 #[.int .i64 (T : Int), .int .i64 (I : Int), .int .i64 (F : Int), .int .i64 (O : Int), .int .i64 (L : Int), .int .i64 (P : Int), .string (bsL s), .string (bsL d), .string (bsL q)]) := KH3.out.since bb
              have BH4 : Hid (Below w.heap.size w v4) := bel_trans BH3.out bb
              clear bb
              go_wp2_with fail
              refine hK.out _ _ KH4.out (fun hHeld => ?_)
              clear hK K hHeld
              refine wpAnyH_take (i := 25) (v := ?_) rfl (by kernel_rfl) (by kernel_rfl) (by kernel_rfl) (fun _ _ _ h => h) (Or.inl ⟨by rfl, ?_⟩) KH4.out ?_
              rotate_left
              · intro w hSw; go_simp; first | done | with_reducible rfl
              simp only [List.getElem_toArray, List.getElem_cons_zero, List.getElem_cons_succ, Act.put, List.setIfInBounds_toArray, List.set_cons_zero, List.set_cons_succ]
              refine wpAnyH_take (i := 26) (v := ?_) rfl (by kernel_rfl) (by kernel_rfl) (by kernel_rfl) (fun _ _ _ h => h) (Or.inl ⟨by rfl, ?_⟩) KH4.out ?_
              rotate_left
              · intro w hSw; go_simp; first | done | with_reducible rfl
              simp only [List.getElem_toArray, List.getElem_cons_zero, List.getElem_cons_succ, Act.put, List.setIfInBounds_toArray, List.set_cons_zero, List.set_cons_succ]
              refine wpAnyH_done (by kernel_rfl) ?_ _
              refine NoPanic.normal ?_
              go_wp2_with fail
              go_meet
              case rel => exact ⟨rfl, BH4.out, KH4.out⟩
            exact AllReadyH.nil
          exact AllReadyH.nil
        refine AllReadyH.cons rfl (fun K hK => ?_) ?_
        · go_simp
          refine (rtwo_any I _ I1).mono ?_
          rintro e v3 ⟨rfl, bb⟩
          rw [HX4.out]
          have KB3 : Hid (Blk v3 _ 5 #[.int .u8 (A : Int), .int .u8 (T : Int)]) := KB2.out.since bb
          have KH3 : Hid (Blk v3 w.heap.size 28 #[.int .i64 (T : Int), .int .i64 (I : Int), .int .i64 (F : Int), .int .i64 (O : Int), .int .i64 (L : Int), .int .i64 (P : Int), .string (bsL s), .string (bsL d), .string (bsL q)]) := KH2.out.since bb
          have BH3 : Hid (Below w.heap.size w v3) := bel_trans BH2.out bb
          clear bb
          go_wp2_with fail
          refine hK.out _ _ KH3.out (fun hHeld => ?_)
          clear hK K hHeld
          refine wpAnyH_ready (rs := [8, 24]) (by kernel_rfl) (by simp) ?_
          refine AllReadyH.cons rfl (fun K hK => ?_) ?_
          · have cv := conv_two v3 _ _ _ A1 T1 KB3.out
            go_simp
            clear cv
            refine hK.out _ _ KH3.out (fun hHeld => ?_)
            clear hK K hHeld
            refine wpAnyH_take (i := 13) (v := ?_) rfl (by kernel_rfl) (by kernel_rfl) (by kernel_rfl) (fun _ _ _ h => h) (Or.inl ⟨by rfl, ?_⟩) KH3.out ?_
            rotate_left
            · intro w hSw; go_simp; first | done | with_reducible rfl
            simp only [List.getElem_toArray, List.getElem_cons_zero, List.getElem_cons_succ, Act.put, List.setIfInBounds_toArray, List.set_cons_zero, List.set_cons_succ]
            refine wpAnyH_take (i := 17) (v := ?_) rfl (by kernel_rfl) (by kernel_rfl) (by kernel_rfl) (fun _ _ _ h => h) (Or.inl ⟨by rfl, ?_⟩) KH3.out ?_
            rotate_left
            · intro w hSw; go_simp; first | done | with_reducible rfl
            simp only [List.getElem_toArray, List.getElem_cons_zero, List.getElem_cons_succ, Act.put, List.setIfInBounds_toArray, List.set_cons_zero, List.set_cons_succ]
            refine wpAnyH_ready (rs := [24]) (by kernel_rfl) (by simp) ?_
            refine AllReadyH.cons rfl (fun K hK => ?_) ?_
            · go_simp
              refine (rtwo_any H _ H1).mono ?_
              rintro e v4 ⟨rfl, bb⟩
              rw [HX5.out]
              have KH4 : Hid (Blk v4 w.heap.size 28 #[.int .i64 (T : Int), .int .i64 (I : Int), .int .i64 (F : Int), .int .i64 (O : Int), .int .i64 (L : Int), .int .i64 (P : Int), .string (bsL s), .string (bsL d), .string (bsL q)]) := KH3.out.since bb
              have BH4 : Hid (Below w.heap.size w v4) := bel_trans BH3.out bb
              clear bb
              go_wp2_with fail
              refine hK.out _ _ KH4.out (fun hHeld => ?_)
              clear hK K hHeld
              refine wpAnyH_take (i := 25) (v := ?_) rfl (by kernel_rfl) (by kernel_rfl) (by kernel_rfl) (fun _ _ _ h => h) (Or.inl ⟨by rfl, ?_⟩) KH4.out ?_
              rotate_left
              · intro w hSw; go_simp; first | done | with_reducible rfl
              simp only [List.getElem_toArray, List.getElem_cons_zero, List.getElem_cons_succ, Act.put, List.setIfInBounds_toArray, List.set_cons_zero, List.set_cons_succ]
              refine wpAnyH_take (i := 26) (v := ?_) rfl (by kernel_rfl) (by kernel_rfl) (by kernel_rfl) (fun _ _ _ h => h) (Or.inl ⟨by rfl, ?_⟩) KH4.out ?_
              rotate_left
              · intro w hSw; go_simp; first | done | with_reducible rfl
              simp only [List.getElem_toArray, List.getElem_cons_zero, List.getElem_cons_succ, Act.put, List.setIfInBounds_toArray, List.set_cons_zero, List.set_cons_succ]
              refine wpAnyH_done (by kernel_rfl) ?_ _
              refine NoPanic.normal ?_
              go_wp2_with fail
              go_meet
              case rel => exact ⟨rfl, BH4.out, KH4.out⟩
            exact AllReadyH.nil
          refine AllReadyH.cons rfl (fun K hK => ?_) ?_
          · go_simp
            refine (rtwo_any H _ H1).mono ?_
            rintro e v4 ⟨rfl, bb⟩
            rw [HX5.out]
            have KB4 : Hid (Blk v4 _ 5 #[.int .u8 (A : Int), .int .u8 (T : Int)]) := KB3.out.since bb
            have KH4 : Hid (Blk v4 w.heap.size 28 #[.int .i64 (T : Int), .int .i64 (I : Int), .int .i64 (F : Int), .int .i64 (O : Int), .int .i64 (L : Int), .int .i64 (P : Int), .string (bsL s), .string (bsL d), .string (bsL q)]) := KH3.out.since bb
            have BH4 : Hid (Below w.heap.size w v4) := bel_trans BH3.out bb
            clear bb
            go_wp2_with fail
            refine hK.out _ _ KH4.out (fun hHeld => ?_)
            clear hK K hHeld
            refine wpAnyH_ready (rs := [8]) (by kernel_rfl) (by simp) ?_
            refine AllReadyH.cons rfl (fun K hK => ?_) ?_
            · have cv := conv_two v4 _ _ _ A1 T1 KB4.out
              go_simp
              clear cv
              refine hK.out _ _ KH4.out (fun hHeld => ?_)
              clear hK K hHeld
              refine wpAnyH_take (i := 13) (v := ?_) rfl (by kernel_rfl) (by kernel_rfl) (by kernel_rfl) (fun _ _ _ h => h) (Or.inl ⟨by rfl, ?_⟩) KH4.out ?_
              rotate_left
              · intro w hSw; go_simp; first | done | with_reducible rfl
              simp only [List.getElem_toArray, List.getElem_cons_zero, List.getElem_cons_succ, Act.put, List.setIfInBounds_toArray, List.set_cons_zero, List.set_cons_succ]
              refine wpAnyH_take (i := 17) (v := ?_) rfl (by kernel_rfl) (by kernel_rfl) (by kernel_rfl) (fun _ _ _ h => h) (Or.inl ⟨by rfl, ?_⟩) KH4.out ?_
              rotate_left
              · intro w hSw; go_simp; first | done | with_reducible rfl
              simp only [List.getElem_toArray, List.getElem_cons_zero, List.getElem_cons_succ, Act.put, List.setIfInBounds_toArray, List.set_cons_zero, List.set_cons_succ]
              refine wpAnyH_take (i := 25) (v := ?_) rfl (by kernel_rfl) (by kernel_rfl) (by kernel_rfl) (fun _ _ _ h => h) (Or.inl ⟨by rfl, ?_⟩) KH4.out ?_
              rotate_left
              · intro w hSw; go_simp; first | done | with_reducible rfl
              simp only [List.getElem_toArray, List.getElem_cons_zero, List.getElem_cons_succ, Act.put, List.setIfInBounds_toArray, List.set_cons_zero, List.set_cons_succ]
              refine wpAnyH_take (i := 26) (v := ?_) rfl (by kernel_rfl) (by kernel_rfl) (by kernel_rfl) (fun _ _ _ h => h) (Or.inl ⟨by rfl, ?_⟩) KH4.out ?_
              rotate_left
              · intro w hSw; go_simp; first | done | with_reducible rfl
              simp only [List.getElem_toArray, List.getElem_cons_zero, List.getElem_cons_succ, Act.put, List.setIfInBounds_toArray, List.set_cons_zero, List.set_cons_succ]
              refine wpAnyH_done (by kernel_rfl) ?_ _
              refine NoPanic.normal ?_
              go_wp2_with fail
              go_meet
              case rel => exact ⟨rfl, BH4.out, KH4.out⟩
            exact AllReadyH.nil
          exact AllReadyH.nil
        exact AllReadyH.nil
      refine AllReadyH.cons rfl (fun K hK => ?_) ?_
      · go_simp
        refine (rtwo_any I _ I1).mono ?_
        rintro e v2 ⟨rfl, bb⟩
        rw [HX4.out]
        have KH2 : Hid (Blk v2 w.heap.size 28 #[.int .i64 (T : Int), .int .i64 (I : Int), .int .i64 (F : Int), .int .i64 (O : Int), .int .i64 (L : Int), .int .i64 (P : Int), .string (bsL s), .string (bsL d), .string (bsL q)]) := KH1.out.since bb
        have BH2 : Hid (Below w.heap.size w v2) := bel_trans BH1.out bb
        clear bb
        go_wp2_with fail
        refine hK.out _ _ KH2.out (fun hHeld => ?_)
        clear hK K hHeld
        refine wpAnyH_ready (rs := [7, 24]) (by kernel_rfl) (by simp) ?_
        refine AllReadyH.cons rfl (fun K hK => ?_) ?_
        · have nb := Blk.new v2 5 #[.int .u8 (A : Int), .int .u8 (T : Int)]
          have bb := bel_alloc v2 (.cells #[.int .u8 (A : Int), .int .u8 (T : Int)] 5)
          go_simp
          generalize v2.alloc (.cells #[.int .u8 (A : Int), .int .u8 (T : Int)] 5) = v3 at nb bb ⊢
          generalize v2.heap.size = g3 at nb ⊢
          have KB3 : Hid (Blk v3 g3 5 #[.int .u8 (A : Int), .int .u8 (T : Int)]) := nb
          have KH3 : Hid (Blk v3 w.heap.size 28 #[.int .i64 (T : Int), .int .i64 (I : Int), .int .i64 (F : Int), .int .i64 (O : Int), .int .i64 (L : Int), .int .i64 (P : Int), .string (bsL s), .string (bsL d), .string (bsL q)]) := KH2.out.since bb
          have BH3 : Hid (Below w.heap.size w v3) := bel_trans BH2.out bb
          clear nb bb
          refine hK.out _ _ KH3.out (fun hHeld => ?_)
          clear hK K hHeld
          refine wpAnyH_ready (rs := [8, 24]) (by kernel_rfl) (by simp) ?_
          refine AllReadyH.cons rfl (fun K hK => ?_) ?_
          · have cv := conv_two v3 _ _ _ A1 T1 KB3.out
            go_simp
            clear cv
            refine hK.out _ _ KH3.out (fun hHeld => ?_)
            clear hK K hHeld
            refine wpAnyH_take (i := 13) (v := ?_) rfl (by kernel_rfl) (by kernel_rfl) (by kernel_rfl) (fun _ _ _ h => h) (Or.inl ⟨by rfl, ?_⟩) KH3.out ?_
            rotate_left
            · intro w hSw; go_simp; first | done | with_reducible rfl
            simp only [List.getElem_toArray, List.getElem_cons_zero, List.getElem_cons_succ, Act.put, List.setIfInBounds_toArray, List.set_cons_zero, List.set_cons_succ]
            refine wpAnyH_take (i := 17) (v := ?_) rfl (by kernel_rfl) (by kernel_rfl) (by kernel_rfl) (fun _ _ _ h => h) (Or.inl ⟨by rfl, ?_⟩) KH3.out ?_
            rotate_left
            · intro w hSw; go_simp; first | done | with_reducible rfl
            simp only [List.getElem_toArray, List.getElem_cons_zero, List.getElem_cons_succ, Act.put, List.setIfInBounds_toArray, List.set_cons_zero, List.set_cons_succ]
            refine wpAnyH_ready (rs := [24]) (by kernel_rfl) (by simp) ?_
            refine AllReadyH.cons rfl (fun K hK => ?_) ?_
            · go_simp
              refine (rtwo_any H _ H1).mono ?_
              rintro e v4 ⟨rfl, bb⟩
              rw [HX5.out]
              have KH4 : Hid (Blk v4 w.heap.size 28 #[.int .i64 (T : Int), .int .i64 (I : Int), .int .i64 (F : Int), .int .i64 (O : Int), .int .i64 (L : Int), .int .i64 (P : Int), .string (bsL s), .string (bsL d), .string (bsL q)]) := KH3.out.since bb
              have BH4 : Hid (Below w.heap.size w v4) := bel_trans BH3.out bb
              clear bb
              go_wp2_with fail
              refine hK.out _ _ KH4.out (fun hHeld => ?_)
              clear hK K hHeld
              refine wpAnyH_take (i := 25) (v := ?_) rfl (by kernel_rfl) (by kernel_rfl) (by kernel_rfl) (fun _ _ _ h => h) (Or.inl ⟨by rfl, ?_⟩) KH4.out ?_
              rotate_left
              · intro w hSw; go_simp; first | done | with_reducible rfl
              simp only [List.getElem_toArray, List.getElem_cons_zero, List.getElem_cons_succ, Act.put, List.setIfInBounds_toArray, List.set_cons_zero, List.set_cons_succ]
              refine wpAnyH_take (i := 26) (v := ?_) rfl (by kernel_rfl) (by kernel_rfl) (by kernel_rfl) (fun _ _ _ h => h) (Or.inl ⟨by rfl, ?_⟩) KH4.out ?_
              rotate_left
              · intro w hSw; go_simp; first | done | with_reducible rfl
              simp only [List.getElem_toArray, List.getElem_cons_zero, List.getElem_cons_succ, Act.put, List.setIfInBounds_toArray, List.set_cons_zero, List.set_cons_succ]
              refine wpAnyH_done (by kernel_rfl) ?_ _
              refine NoPanic.normal ?_
              go_wp2_with fail
              go_meet
              case rel => exact ⟨rfl, BH4.out, KH4.out⟩
            exact AllReadyH.nil
          refine AllReadyH.cons rfl (fun K hK => ?_) ?_
          · go_simp
            refine (rtwo_any H _ H1).mono ?_
            rintro e v4 ⟨rfl, bb⟩
            rw [HX5.out]
            have KB4 : Hid (Blk v4 _ 5 #[.int .u8 (A : Int), .int .u8 (T : Int)]) := KB3.out.since bb
            have KH4 : Hid (Blk v4 w.heap.size 28 #[.int .i64 (T : Int), .int .i64 (I : Int), .int .i64 (F : Int), .int .i64 (O : Int), .int .i64 (L : Int), .int .i64 (P : Int), .string (bsL s), .string (bsL d), .string (bsL q)]) := KH3.out.since bb
            have BH4 : Hid (Below w.heap.size w v4) := bel_trans BH3.out bb
            clear bb
            go_wp2_with fail
            refine hK.out _ _ KH4.out (fun hHeld => ?_)
            clear hK K hHeld
            refine wpAnyH_ready (rs := [8]) (by kernel_rfl) (by simp) ?_
            refine AllReadyH.cons rfl (fun K hK => ?_) ?_
            · have cv := conv_two v4 _ _ _ A1 T1 KB4.out
              go_simp
              clear cv
              refine hK.out _ _ KH4.out (fun hHeld => ?_)
              clear hK K hHeld
              refine wpAnyH_take (i := 13) (v := ?_) rfl (by kernel_rfl) (by kernel_rfl) (by kernel_rfl) (fun _ _ _ h => h) (Or.inl ⟨by rfl, ?_⟩) KH4.out ?_
              rotate_left
              · intro w hSw; go_simp; first | done | with_reducible rfl
              simp only [List.getElem_toArray, List.getElem_cons_zero, List.getElem_cons_succ, Act.put, List.setIfInBounds_toArray, List.set_cons_zero, List.set_cons_succ]
              refine wpAnyH_take (i := 17) (v := ?_) rfl (by kernel_rfl) (by kernel_rfl) (by kernel_rfl) (fun _ _ _ h => h) (Or.inl ⟨by rfl, ?_⟩) KH4.out ?_
              rotate_left
              · intro w hSw; go_simp; first | done | with_reducible rfl
              simp only [List.getElem_toArray, List.getElem_cons_zero, List.getElem_cons_succ, Act.put, List.setIfInBounds_toArray, List.set_cons_zero, List.set_cons_succ]
              refine wpAnyH_take (i := 25) (v := ?_) rfl (by kernel_rfl) (by kernel_rfl) (by kernel_rfl) (fun _ _ _ h => h) (Or.inl ⟨by rfl, ?_⟩) KH4.out ?_
              rotate_left
              · intro w hSw; go_simp; first | done | with_reducible rfl
              simp only [List.getElem_toArray, List.getElem_cons_zero, List.getElem_cons_succ, Act.put, List.setIfInBounds_toArray, List.set_cons_zero, List.set_cons_succ]
              refine wpAnyH_take (i := 26) (v := ?_) rfl (by kernel_rfl) (by kernel_rfl) (by kernel_rfl) (fun _ _ _ h => h) (Or.inl ⟨by rfl, ?_⟩) KH4.out ?_
              rotate_left
              · intro w hSw; go_simp; first | done | with_reducible rfl
              simp only [List.getElem_toArray, List.getElem_cons_zero, List.getElem_cons_succ, Act.put, List.setIfInBounds_toArray, List.set_cons_zero, List.set_cons_succ]
              refine wpAnyH_done (by kernel_rfl) ?_ _
              refine NoPanic.normal ?_
              go_wp2_with fail
              go_meet
              case rel => exact ⟨rfl, BH4.out, KH4.out⟩
            exact AllReadyH.nil
          exact AllReadyH.nil
        refine AllReadyH.cons rfl (fun K hK => ?_) ?_
        · go_simp
          refine (rtwo_any H _ H1).mono ?_
          rintro e v3 ⟨rfl, bb⟩
          rw [HX5.out]
          have KH3 : Hid (Blk v3 w.heap.size 28 #[.int .i64 (T : Int), .int .i64 (I : Int), .int .i64 (F : Int), .int .i64 (O : Int), .int .i64 (L : Int), .int .i64 (P : Int), .string (bsL s), .string (bsL d), .string (bsL q)]) := KH2.out.since bb
          have BH3 : Hid (Below w.heap.size w v3) := bel_trans BH2.out bb
          clear bb
          go_wp2_with fail
          refine hK.out _ _ KH3.out (fun hHeld => ?_)
          clear hK K hHeld
          refine wpAnyH_ready (rs := [7]) (by kernel_rfl) (by simp) ?_
          refine AllReadyH.cons rfl (fun K hK => ?_) ?_
          · have nb := Blk.new v3 5 #[.int .u8 (A : Int), .int .u8 (T : Int)]
            have bb := bel_alloc v3 (.cells #[.int .u8 (A : Int), .int .u8 (T : Int)] 5)
            go_simp
            generalize v3.alloc (.cells #[.int .u8 (A : Int), .int .u8 (T : Int)] 5) = v4 at nb bb ⊢
            generalize v3.heap.size = g4 at nb ⊢
            have KB4 : Hid (Blk v4 g4 5 #[.int .u8 (A : Int), .int .u8 (T : Int)]) := nb
            have KH4 : Hid (Blk v4 w.heap.size 28 #[.int .i64 (T : Int), .int .i64 (I : Int), .int .i64 (F : Int), .int .i64 (O : Int), .int .i64 (L : Int), .int .i64 (P : Int), .string (bsL s), .string (bsL d), .string (bsL q)]) := KH3.out.since bb
            have BH4 : Hid (Below w.heap.size w v4) := bel_trans BH3.out bb
            clear nb bb
            refine hK.out _ _ KH4.out (fun hHeld => ?_)
            clear hK K hHeld
            refine wpAnyH_ready (rs := [8]) (by kernel_rfl) (by simp) ?_
            refine AllReadyH.cons rfl (fun K hK => ?_) ?_
            · have cv := conv_two v4 _ _ _ A1 T1 KB4.out
              go_simp
              clear cv
              refine hK.out _ _ KH4.out (fun hHeld => ?_)
              clear hK K hHeld
              refine wpAnyH_take (i := 13) (v := ?_) rfl (by kernel_rfl) (by kernel_rfl) (by kernel_rfl) (fun _ _ _ h => h) (Or.inl ⟨by rfl, ?_⟩) KH4.out ?_
              rotate_left
              · intro w hSw; go_simp; first | done | with_reducible rfl
              simp only [List.getElem_toArray, List.getElem_cons_zero, List.getElem_cons_succ, Act.put, List.setIfInBounds_toArray, List.set_cons_zero, List.set_cons_succ]
              refine wpAnyH_take (i := 17) (v := ?_) rfl (by kernel_rfl) (by kernel_rfl) (by kernel_rfl) (fun _ _ _ h => h) (Or.inl ⟨by rfl, ?_⟩) KH4.out ?_
              rotate_left
              · intro w hSw; go_simp; first | done | with_reducible rfl
              simp only [List.getElem_toArray, List.getElem_cons_zero, List.getElem_cons_succ, Act.put, List.setIfInBounds_toArray, List.set_cons_zero, List.set_cons_succ]
              refine wpAnyH_take (i := 25) (v := ?_) rfl (by kernel_rfl) (by kernel_rfl) (by kernel_rfl) (fun _ _ _ h => h) (Or.inl ⟨by rfl, ?_⟩) KH4.out ?_
              rotate_left
              · intro w hSw; go_simp; first | done | with_reducible rfl
              simp only [List.getElem_toArray, List.getElem_cons_zero, List.getElem_cons_succ, Act.put, List.setIfInBounds_toArray, List.set_cons_zero, List.set_cons_succ]
              refine wpAnyH_take (i := 26) (v := ?_) rfl (by kernel_rfl) (by kernel_rfl) (by kernel_rfl) (fun _ _ _ h => h) (Or.inl ⟨by rfl, ?_⟩) KH4.out ?_
              rotate_left
              · intro w hSw; go_simp; first | done | with_reducible rfl
              simp only [List.getElem_toArray, List.getElem_cons_zero, List.getElem_cons_succ, Act.put, List.setIfInBounds_toArray, List.set_cons_zero, List.set_cons_succ]
              refine wpAnyH_done (by kernel_rfl) ?_ _
              refine NoPanic.normal ?_
              go_wp2_with fail
              go_meet
              case rel => exact ⟨rfl, BH4.out, KH4.out⟩
            exact AllReadyH.nil
          exact AllReadyH.nil
        exact AllReadyH.nil
      exact AllReadyH.nil
    exact AllReadyH.nil
  case rest =>
    obtain ⟨rfl, bc, kc⟩ := hcut
    have BC : Hid (Below w.heap.size w wc) := bc
    have KC : Hid (Blk wc w.heap.size 28 #[.int .i64 (T : Int), .int .i64 (I : Int), .int .i64 (F : Int), .int .i64 (O : Int), .int .i64 (L : Int), .int .i64 (P : Int), .string (bsL s), .string (bsL d), .string (bsL q)]) := kc
    clear bc kc
    go_wp2_with fail
    refine wp_region_noPanic ?_
    have KD : Hid (Blk wc.drew w.heap.size 28 #[.int .i64 (T : Int), .int .i64 (I : Int), .int .i64 (F : Int), .int .i64 (O : Int), .int .i64 (L : Int), .int .i64 (P : Int), .string (bsL s), .string (bsL d), .string (bsL q)]) := KC.out.drew
    have BD : Hid (Below w.heap.size w wc.drew) := BC.out.drew
    refine wp_region_held_drew (S := (fun w' => Blk w' w.heap.size 28 #[.int .i64 (T : Int), .int .i64 (I : Int), .int .i64 (F : Int), .int .i64 (O : Int), .int .i64 (L : Int), .int .i64 (P : Int), .string (bsL s), .string (bsL d), .string (bsL q)])) (by kernel_rfl) KD.out (fun hHeld => ?_)
    clear hHeld
    generalize wc.drew = v0 at KD BD ⊢
    have KH0 : Hid (Blk v0 w.heap.size 28 #[.int .i64 (T : Int), .int .i64 (I : Int), .int .i64 (F : Int), .int .i64 (O : Int), .int .i64 (L : Int), .int .i64 (P : Int), .string (bsL s), .string (bsL d), .string (bsL q)]) := KD.out
    have BH0 : Hid (Below w.heap.size w v0) := BD.out
    clear KD BD
    refine wpAnyH_take (i := 0) (v := ?_) rfl (by kernel_rfl) (by kernel_rfl) (by kernel_rfl) (fun _ _ _ h => h) (Or.inl ⟨by rfl, ?_⟩) KH0.out ?_
    rotate_left
    · intro w hSw; go_simp; first | done | with_reducible rfl
    simp only [List.getElem_toArray, List.getElem_cons_zero, Act.put, List.setIfInBounds_toArray, List.set_cons_zero, List.set_cons_succ]
    refine wpAnyH_take (i := 1) (v := ?_) rfl (by kernel_rfl) (by kernel_rfl) (by kernel_rfl) (fun _ _ _ h => h) (Or.inl ⟨by rfl, ?_⟩) KH0.out ?_
    rotate_left
    · intro w hSw; go_simp; first | done | with_reducible rfl
    simp only [List.getElem_toArray, List.getElem_cons_zero, List.getElem_cons_succ, Act.put, List.setIfInBounds_toArray, List.set_cons_zero, List.set_cons_succ]
    refine wpAnyH_take (i := 2) (v := ?_) rfl (by kernel_rfl) (by kernel_rfl) (by kernel_rfl) (fun _ _ _ h => h) (Or.inl ⟨by rfl, ?_⟩) KH0.out ?_
    rotate_left
    · intro w hSw; have cl := hSw.cell 4; go_simp; first | done | with_reducible rfl
    simp only [List.getElem_toArray, List.getElem_cons_zero, List.getElem_cons_succ, Act.put, List.setIfInBounds_toArray, List.set_cons_zero, List.set_cons_succ]
    refine wpAnyH_take (i := 3) (v := ?_) rfl (by kernel_rfl) (by kernel_rfl) (by kernel_rfl) (fun _ _ _ h => h) (Or.inl ⟨by rfl, ?_⟩) KH0.out ?_
    rotate_left
    · intro w hSw; go_simp; first | done | with_reducible rfl
    simp only [List.getElem_toArray, List.getElem_cons_zero, List.getElem_cons_succ, Act.put, List.setIfInBounds_toArray, List.set_cons_zero, List.set_cons_succ]
    refine wpAnyH_take (i := 4) (v := ?_) rfl (by kernel_rfl) (by kernel_rfl) (by kernel_rfl) (fun _ _ _ h => h) (Or.inl ⟨by rfl, ?_⟩) KH0.out ?_
    rotate_left
    · intro w hSw; go_simp; first | done | with_reducible rfl
    simp only [List.getElem_toArray, List.getElem_cons_zero, List.getElem_cons_succ, Act.put, List.setIfInBounds_toArray, List.set_cons_zero, List.set_cons_succ]
    refine wpAnyH_take (i := 5) (v := ?_) rfl (by kernel_rfl) (by kernel_rfl) (by kernel_rfl) (fun _ _ _ h => h) (Or.inl ⟨by rfl, ?_⟩) KH0.out ?_
    rotate_left
    · intro w hSw; have cl := hSw.cell 5; go_simp; first | done | with_reducible rfl
    simp only [List.getElem_toArray, List.getElem_cons_zero, List.getElem_cons_succ, Act.put, List.setIfInBounds_toArray, List.set_cons_zero, List.set_cons_succ]
    refine wpAnyH_take (i := 6) (v := ?_) rfl (by kernel_rfl) (by kernel_rfl) (by kernel_rfl) (fun _ _ _ h => h) (Or.inl ⟨by rfl, ?_⟩) KH0.out ?_
    rotate_left
    · intro w hSw; go_simp; first | done | with_reducible rfl
    simp only [List.getElem_toArray, List.getElem_cons_zero, List.getElem_cons_succ, Act.put, List.setIfInBounds_toArray, List.set_cons_zero, List.set_cons_succ]
    refine wpAnyH_take (i := 10) (v := ?_) rfl (by kernel_rfl) (by kernel_rfl) (by kernel_rfl) (fun _ _ _ h => h) (Or.inl ⟨by rfl, ?_⟩) KH0.out ?_
    rotate_left
    · intro w hSw; go_simp; first | done | with_reducible rfl
    simp only [List.getElem_toArray, List.getElem_cons_zero, List.getElem_cons_succ, Act.put, List.setIfInBounds_toArray, List.set_cons_zero, List.set_cons_succ]
    refine wpAnyH_take (i := 13) (v := ?_) rfl (by kernel_rfl) (by kernel_rfl) (by kernel_rfl) (fun _ _ _ h => h) (Or.inl ⟨by rfl, ?_⟩) KH0.out ?_
    rotate_left
    · intro w hSw; go_simp; first | done | with_reducible rfl
    simp only [List.getElem_toArray, List.getElem_cons_zero, List.getElem_cons_succ, Act.put, List.setIfInBounds_toArray, List.set_cons_zero, List.set_cons_succ]
    refine wpAnyH_take (i := 14) (v := ?_) rfl (by kernel_rfl) (by kernel_rfl) (by kernel_rfl) (fun _ _ _ h => h) (Or.inl ⟨by rfl, ?_⟩) KH0.out ?_
    rotate_left
    · intro w hSw; have cl := hSw.cell 6; go_simp; first | done | with_reducible rfl
    simp only [List.getElem_toArray, List.getElem_cons_zero, List.getElem_cons_succ, Act.put, List.setIfInBounds_toArray, List.set_cons_zero, List.set_cons_succ]
    refine wpAnyH_take (i := 16) (v := ?_) rfl (by kernel_rfl) (by kernel_rfl) (by kernel_rfl) (fun _ _ _ h => h) (Or.inl ⟨by rfl, ?_⟩) KH0.out ?_
    rotate_left
    · intro w hSw; go_simp; first | done | with_reducible rfl
    simp only [List.getElem_toArray, List.getElem_cons_zero, List.getElem_cons_succ, Act.put, List.setIfInBounds_toArray, List.set_cons_zero, List.set_cons_succ]
    refine wpAnyH_take (i := 17) (v := ?_) rfl (by kernel_rfl) (by kernel_rfl) (by kernel_rfl) (fun _ _ _ h => h) (Or.inl ⟨by rfl, ?_⟩) KH0.out ?_
    rotate_left
    · intro w hSw; have cl := hSw.cell 7; go_simp; first | done | with_reducible rfl
    simp only [List.getElem_toArray, List.getElem_cons_zero, List.getElem_cons_succ, Act.put, List.setIfInBounds_toArray, List.set_cons_zero, List.set_cons_succ]
    refine wpAnyH_take (i := 19) (v := ?_) rfl (by kernel_rfl) (by kernel_rfl) (by kernel_rfl) (fun _ _ _ h => h) (Or.inl ⟨by rfl, ?_⟩) KH0.out ?_
    rotate_left
    · intro w hSw; go_simp; first | done | with_reducible rfl
    simp only [List.getElem_toArray, List.getElem_cons_zero, List.getElem_cons_succ, Act.put, List.setIfInBounds_toArray, List.set_cons_zero, List.set_cons_succ]
    refine wpAnyH_take (i := 20) (v := ?_) rfl (by kernel_rfl) (by kernel_rfl) (by kernel_rfl) (fun _ _ _ h => h) (Or.inl ⟨by rfl, ?_⟩) KH0.out ?_
    rotate_left
    · intro w hSw; have cl := hSw.cell 8; go_simp; first | done | with_reducible rfl
    simp only [List.getElem_toArray, List.getElem_cons_zero, List.getElem_cons_succ, Act.put, List.setIfInBounds_toArray, List.set_cons_zero, List.set_cons_succ]
    refine wpAnyH_ready (rs := [7, 11]) (by kernel_rfl) (by simp) ?_
    refine AllReadyH.cons rfl (fun K hK => ?_) ?_
    · have nb := Blk.new v0 5 #[.int .u8 (L : Int), .int .u8 (P : Int)]
      have bb := bel_alloc v0 (.cells #[.int .u8 (L : Int), .int .u8 (P : Int)] 5)
      go_simp
      generalize v0.alloc (.cells #[.int .u8 (L : Int), .int .u8 (P : Int)] 5) = v1 at nb bb ⊢
      generalize v0.heap.size = g1 at nb ⊢
      have KB1 : Hid (Blk v1 g1 5 #[.int .u8 (L : Int), .int .u8 (P : Int)]) := nb
      have KH1 : Hid (Blk v1 w.heap.size 28 #[.int .i64 (T : Int), .int .i64 (I : Int), .int .i64 (F : Int), .int .i64 (O : Int), .int .i64 (L : Int), .int .i64 (P : Int), .string (bsL s), .string (bsL d), .string (bsL q)]) := KH0.out.since bb
      have BH1 : Hid (Below w.heap.size w v1) := bel_trans BH0.out bb
      clear nb bb
      refine hK.out _ _ KH1.out (fun hHeld => ?_)
      clear hK K hHeld
      refine wpAnyH_ready (rs := [8, 11]) (by kernel_rfl) (by simp) ?_
      refine AllReadyH.cons rfl (fun K hK => ?_) ?_
      · have cv := conv_two v1 _ _ _ L1 P1 KB1.out
        go_simp
        clear cv
        refine hK.out _ _ KH1.out (fun hHeld => ?_)
        clear hK K hHeld
        refine wpAnyH_take (i := 9) (v := ?_) rfl (by kernel_rfl) (by kernel_rfl) (by kernel_rfl) (fun _ _ _ h => h) (Or.inl ⟨by rfl, ?_⟩) KH1.out ?_
        rotate_left
        · intro w hSw; go_simp; first | done | with_reducible rfl
        simp only [List.getElem_toArray, List.getElem_cons_zero, List.getElem_cons_succ, Act.put, List.setIfInBounds_toArray, List.set_cons_zero, List.set_cons_succ]
        refine wpAnyH_ready (rs := [11]) (by kernel_rfl) (by simp) ?_
        refine AllReadyH.cons rfl (fun K hK => ?_) ?_
        · go_simp
          refine (rtwo_any M _ M1).mono ?_
          rintro e v2 ⟨rfl, bb⟩
          rw [HX6.out]
          have KH2 : Hid (Blk v2 w.heap.size 28 #[.int .i64 (T : Int), .int .i64 (I : Int), .int .i64 (F : Int), .int .i64 (O : Int), .int .i64 (L : Int), .int .i64 (P : Int), .string (bsL s), .string (bsL d), .string (bsL q)]) := KH1.out.since bb
          have BH2 : Hid (Below w.heap.size w v2) := bel_trans BH1.out bb
          clear bb
          go_wp2_with fail
          refine hK.out _ _ KH2.out (fun hHeld => ?_)
          clear hK K hHeld
          refine wpAnyH_take (i := 12) (v := ?_) rfl (by kernel_rfl) (by kernel_rfl) (by kernel_rfl) (fun _ _ _ h => h) (Or.inl ⟨by rfl, ?_⟩) KH2.out ?_
          rotate_left
          · intro w hSw; go_simp; first | done | with_reducible rfl
          simp only [List.getElem_toArray, List.getElem_cons_zero, List.getElem_cons_succ, Act.put, List.setIfInBounds_toArray, List.set_cons_zero, List.set_cons_succ]
          refine wpAnyH_take (i := 15) (v := ?_) rfl (by kernel_rfl) (by kernel_rfl) (by kernel_rfl) (fun _ _ _ h => h) (Or.inl ⟨by rfl, ?_⟩) KH2.out ?_
          rotate_left
          · intro w hSw; go_simp; first | done | with_reducible rfl
          simp only [List.getElem_toArray, List.getElem_cons_zero, List.getElem_cons_succ, Act.put, List.setIfInBounds_toArray, List.set_cons_zero, List.set_cons_succ]
          refine wpAnyH_take (i := 18) (v := ?_) rfl (by kernel_rfl) (by kernel_rfl) (by kernel_rfl) (fun _ _ _ h => h) (Or.inl ⟨by rfl, ?_⟩) KH2.out ?_
          rotate_left
          · intro w hSw; go_simp; first | done | with_reducible rfl
          simp only [List.getElem_toArray, List.getElem_cons_zero, List.getElem_cons_succ, Act.put, List.setIfInBounds_toArray, List.set_cons_zero, List.set_cons_succ]
          refine wpAnyH_take (i := 21) (v := ?_) rfl (by kernel_rfl) (by kernel_rfl) (by kernel_rfl) (fun _ _ _ h => h) (Or.inl ⟨by rfl, ?_⟩) KH2.out ?_
          rotate_left
          · intro w hSw; go_simp; first | done | with_reducible rfl
          simp only [List.getElem_toArray, List.getElem_cons_zero, List.getElem_cons_succ, Act.put, List.setIfInBounds_toArray, List.set_cons_zero, List.set_cons_succ]
          refine wpAnyH_take (i := 22) (v := ?_) rfl (by kernel_rfl) (by kernel_rfl) (by kernel_rfl) (fun _ _ _ h => h) (Or.inl ⟨by rfl, ?_⟩) KH2.out ?_
          rotate_left
          · intro w hSw; go_simp; first | done | with_reducible rfl
          simp only [List.getElem_toArray, List.getElem_cons_zero, List.getElem_cons_succ, Act.put, List.setIfInBounds_toArray, List.set_cons_zero, List.set_cons_succ]
          refine wpAnyH_done (by kernel_rfl) ?_ _
          refine NoPanic.normal ?_
          go_wp2_with fail
          go_ret
          exact ⟨by rw [← FIN.out]; rfl, BH2.out⟩
        exact AllReadyH.nil
      refine AllReadyH.cons rfl (fun K hK => ?_) ?_
      · go_simp
        refine (rtwo_any M _ M1).mono ?_
        rintro e v2 ⟨rfl, bb⟩
        rw [HX6.out]
        have KB2 : Hid (Blk v2 _ 5 #[.int .u8 (L : Int), .int .u8 (P : Int)]) := KB1.out.since bb
        have KH2 : Hid (Blk v2 w.heap.size 28 #[.int .i64 (T : Int), .int .i64 (I : Int), .int .i64 (F : Int), .int .i64 (O : Int), .int .i64 (L : Int), .int .i64 (P : Int), .string (bsL s), .string (bsL d), .string (bsL q)]) := KH1.out.since bb
        have BH2 : Hid (Below w.heap.size w v2) := bel_trans BH1.out bb
        clear bb
        go_wp2_with fail
        refine hK.out _ _ KH2.out (fun hHeld => ?_)
        clear hK K hHeld
        refine wpAnyH_ready (rs := [8]) (by kernel_rfl) (by simp) ?_
        refine AllReadyH.cons rfl (fun K hK => ?_) ?_
        · have cv := conv_two v2 _ _ _ L1 P1 KB2.out
          go_simp
          clear cv
          refine hK.out _ _ KH2.out (fun hHeld => ?_)
          clear hK K hHeld
          refine wpAnyH_take (i := 9) (v := ?_) rfl (by kernel_rfl) (by kernel_rfl) (by kernel_rfl) (fun _ _ _ h => h) (Or.inl ⟨by rfl, ?_⟩) KH2.out ?_
          rotate_left
          · intro w hSw; go_simp; first | done | with_reducible rfl
          simp only [List.getElem_toArray, List.getElem_cons_zero, List.getElem_cons_succ, Act.put, List.setIfInBounds_toArray, List.set_cons_zero, List.set_cons_succ]
          refine wpAnyH_take (i := 12) (v := ?_) rfl (by kernel_rfl) (by kernel_rfl) (by kernel_rfl) (fun _ _ _ h => h) (Or.inl ⟨by rfl, ?_⟩) KH2.out ?_
          rotate_left
          · intro w hSw; go_simp; first | done | with_reducible rfl
          simp only [List.getElem_toArray, List.getElem_cons_zero, List.getElem_cons_succ, Act.put, List.setIfInBounds_toArray, List.set_cons_zero, List.set_cons_succ]
          refine wpAnyH_take (i := 15) (v := ?_) rfl (by kernel_rfl) (by kernel_rfl) (by kernel_rfl) (fun _ _ _ h => h) (Or.inl ⟨by rfl, ?_⟩) KH2.out ?_
          rotate_left
          · intro w hSw; go_simp; first | done | with_reducible rfl
          simp only [List.getElem_toArray, List.getElem_cons_zero, List.getElem_cons_succ, Act.put, List.setIfInBounds_toArray, List.set_cons_zero, List.set_cons_succ]
          refine wpAnyH_take (i := 18) (v := ?_) rfl (by kernel_rfl) (by kernel_rfl) (by kernel_rfl) (fun _ _ _ h => h) (Or.inl ⟨by rfl, ?_⟩) KH2.out ?_
          rotate_left
          · intro w hSw; go_simp; first | done | with_reducible rfl
          simp only [List.getElem_toArray, List.getElem_cons_zero, List.getElem_cons_succ, Act.put, List.setIfInBounds_toArray, List.set_cons_zero, List.set_cons_succ]
          refine wpAnyH_take (i := 21) (v := ?_) rfl (by kernel_rfl) (by kernel_rfl) (by kernel_rfl) (fun _ _ _ h => h) (Or.inl ⟨by rfl, ?_⟩) KH2.out ?_
          rotate_left
          · intro w hSw; go_simp; first | done | with_reducible rfl
          simp only [List.getElem_toArray, List.getElem_cons_zero, List.getElem_cons_succ, Act.put, List.setIfInBounds_toArray, List.set_cons_zero, List.set_cons_succ]
          refine wpAnyH_take (i := 22) (v := ?_) rfl (by kernel_rfl) (by kernel_rfl) (by kernel_rfl) (fun _ _ _ h => h) (Or.inl ⟨by rfl, ?_⟩) KH2.out ?_
          rotate_left
          · intro w hSw; go_simp; first | done | with_reducible rfl
          simp only [List.getElem_toArray, List.getElem_cons_zero, List.getElem_cons_succ, Act.put, List.setIfInBounds_toArray, List.set_cons_zero, List.set_cons_succ]
          refine wpAnyH_done (by kernel_rfl) ?_ _
          refine NoPanic.normal ?_
          go_wp2_with fail
          go_ret
          exact ⟨by rw [← FIN.out]; rfl, BH2.out⟩
        exact AllReadyH.nil
      exact AllReadyH.nil
    refine AllReadyH.cons rfl (fun K hK => ?_) ?_
    · go_simp
      refine (rtwo_any M _ M1).mono ?_
      rintro e v1 ⟨rfl, bb⟩
      rw [HX6.out]
      have KH1 : Hid (Blk v1 w.heap.size 28 #[.int .i64 (T : Int), .int .i64 (I : Int), .int .i64 (F : Int), .int .i64 (O : Int), .int .i64 (L : Int), .int .i64 (P : Int), .string (bsL s), .string (bsL d), .string (bsL q)]) := KH0.out.since bb
      have BH1 : Hid (Below w.heap.size w v1) := bel_trans BH0.out bb
      clear bb
      go_wp2_with fail
      refine hK.out _ _ KH1.out (fun hHeld => ?_)
      clear hK K hHeld
      refine wpAnyH_ready (rs := [7]) (by kernel_rfl) (by simp) ?_
      refine AllReadyH.cons rfl (fun K hK => ?_) ?_
      · have nb := Blk.new v1 5 #[.int .u8 (L : Int), .int .u8 (P : Int)]
        have bb := bel_alloc v1 (.cells #[.int .u8 (L : Int), .int .u8 (P : Int)] 5)
        go_simp
        generalize v1.alloc (.cells #[.int .u8 (L : Int), .int .u8 (P : Int)] 5) = v2 at nb bb ⊢
        generalize v1.heap.size = g2 at nb ⊢
        have KB2 : Hid (Blk v2 g2 5 #[.int .u8 (L : Int), .int .u8 (P : Int)]) := nb
        have KH2 : Hid (Blk v2 w.heap.size 28 #[.int .i64 (T : Int), .int .i64 (I : Int), .int .i64 (F : Int), .int .i64 (O : Int), .int .i64 (L : Int), .int .i64 (P : Int), .string (bsL s), .string (bsL d), .string (bsL q)]) := KH1.out.since bb
        have BH2 : Hid (Below w.heap.size w v2) := bel_trans BH1.out bb
        clear nb bb
        refine hK.out _ _ KH2.out (fun hHeld => ?_)
        clear hK K hHeld
        refine wpAnyH_ready (rs := [8]) (by kernel_rfl) (by simp) ?_
        refine AllReadyH.cons rfl (fun K hK => ?_) ?_
        · have cv := conv_two v2 _ _ _ L1 P1 KB2.out
          go_simp
          clear cv
          refine hK.out _ _ KH2.out (fun hHeld => ?_)
          clear hK K hHeld
          refine wpAnyH_take (i := 9) (v := ?_) rfl (by kernel_rfl) (by kernel_rfl) (by kernel_rfl) (fun _ _ _ h => h) (Or.inl ⟨by rfl, ?_⟩) KH2.out ?_
          rotate_left
          · intro w hSw; go_simp; first | done | with_reducible rfl
          simp only [List.getElem_toArray, List.getElem_cons_zero, List.getElem_cons_succ, Act.put, List.setIfInBounds_toArray, List.set_cons_zero, List.set_cons_succ]
          refine wpAnyH_take (i := 12) (v := ?_) rfl (by kernel_rfl) (by kernel_rfl) (by kernel_rfl) (fun _ _ _ h => h) (Or.inl ⟨by rfl, ?_⟩) KH2.out ?_
          rotate_left
          · intro w hSw; go_simp; first | done | with_reducible rfl
          simp only [List.getElem_toArray, List.getElem_cons_zero, List.getElem_cons_succ, Act.put, List.setIfInBounds_toArray, List.set_cons_zero, List.set_cons_succ]
          refine wpAnyH_take (i := 15) (v := ?_) rfl (by kernel_rfl) (by kernel_rfl) (by kernel_rfl) (fun _ _ _ h => h) (Or.inl ⟨by rfl, ?_⟩) KH2.out ?_
          rotate_left
          · intro w hSw; go_simp; first | done | with_reducible rfl
          simp only [List.getElem_toArray, List.getElem_cons_zero, List.getElem_cons_succ, Act.put, List.setIfInBounds_toArray, List.set_cons_zero, List.set_cons_succ]
          refine wpAnyH_take (i := 18) (v := ?_) rfl (by kernel_rfl) (by kernel_rfl) (by kernel_rfl) (fun _ _ _ h => h) (Or.inl ⟨by rfl, ?_⟩) KH2.out ?_
          rotate_left
          · intro w hSw; go_simp; first | done | with_reducible rfl
          simp only [List.getElem_toArray, List.getElem_cons_zero, List.getElem_cons_succ, Act.put, List.setIfInBounds_toArray, List.set_cons_zero, List.set_cons_succ]
          refine wpAnyH_take (i := 21) (v := ?_) rfl (by kernel_rfl) (by kernel_rfl) (by kernel_rfl) (fun _ _ _ h => h) (Or.inl ⟨by rfl, ?_⟩) KH2.out ?_
          rotate_left
          · intro w hSw; go_simp; first | done | with_reducible rfl
          simp only [List.getElem_toArray, List.getElem_cons_zero, List.getElem_cons_succ, Act.put, List.setIfInBounds_toArray, List.set_cons_zero, List.set_cons_succ]
          refine wpAnyH_take (i := 22) (v := ?_) rfl (by kernel_rfl) (by kernel_rfl) (by kernel_rfl) (fun _ _ _ h => h) (Or.inl ⟨by rfl, ?_⟩) KH2.out ?_
          rotate_left
          · intro w hSw; go_simp; first | done | with_reducible rfl
          simp only [List.getElem_toArray, List.getElem_cons_zero, List.getElem_cons_succ, Act.put, List.setIfInBounds_toArray, List.set_cons_zero, List.set_cons_succ]
          refine wpAnyH_done (by kernel_rfl) ?_ _
          refine NoPanic.normal ?_
          go_wp2_with fail
          go_ret
          exact ⟨by rw [← FIN.out]; rfl, BH2.out⟩
        exact AllReadyH.nil
      exact AllReadyH.nil
    exact AllReadyH.nil
end Go.Proofs.Ytmblgiidfknodaa
