/-
  The document's Right, Key and Of of layer 9 (flow): they answer as the plain functions say.
-/
import Derived.Test.YticopigpgaomjaaFlowKey
import Derived.Test.YticopigpgaomjaaBytesKit
namespace Go.Proofs.Yticopigpgaomjaa
open Go.RowKit Oc Pt Fl Go.Deep
set_option linter.unusedVariables false

/-- One of the three numbers. -/
def oneOf (a b m : Int) (k : Nat) : Int := if k = 0 then a else if k = 1 then b else m
theorem mul257 {p : Int} (h : 0 ≤ p ∧ p ≤ 255) : IntKind.i64.wrap (257 * p) = 257 * p := by rw [IntKind.wrap_i64]; omega
set_option maxHeartbeats 3200000 in
theorem fl_rright (w : World) (s d : List UInt8) (p a b : Int) : Calls Try.prog 13 #[.agg #[.string (bsL s), .string (bsL d), .int .i64 p, .int .i64 a, .int .i64 b]] w (TellsB w (RightF ⟨s, d, p, a, b⟩)) := by
  obtain ⟨M, hM⟩ : ∃ M, M = IntKind.i64.wrap (257 * p) := ⟨_, rfl⟩
  have zM : IntKind.i64.wrap (257 * p) = M := hM.symm
  have HM : Hid (0 ≤ p ∧ p ≤ 255 → 0 ≤ M ∧ M ≤ 65535) := fun h => by rw [hM, mul257 h]; omega
  clear hM
  have B1 : Hid (Below w.heap.size w ((w.alloc (.cells #[.string (bsL s), .string (bsL d), .int .i64 p, .int .i64 a, .int .i64 b] 24)).alloc (.cells #[.int .i64 a, .int .i64 b, .int .i64 M] 3))) := (bel_alloc _ _).alloc (by simp) _
  go_enter Try.func13, Try.ntmps13
  go_wp2_with fail
  go_loop [14] (fun y => ∃ k : Nat, (k ≤ 3 ∧ ∀ j, j < k → 0 ≤ oneOf a b M j ∧ oneOf a b M j ≤ 65535) ∧ y = .int .i64 (k : Int)) (fun y => (3 - intOf y).toNat)
  case atStart => exact ⟨0, ⟨by omega, fun j hj => by omega⟩, rfl⟩
  case round =>
    obtain ⟨k, ⟨hk, hK⟩, rfl⟩ := hrel
    have HK : Hid (∀ j, j < k → 0 ≤ oneOf a b M j ∧ oneOf a b M j ≤ 65535) := hK
    clear hK
    have e : k = 0 ∨ k = 1 ∨ k = 2 ∨ k = 3 := by omega
    rcases e with rfl | rfl | rfl | rfl
    · by_cases c1 : a < 0
      · have NR : Hid (¬ RightF ⟨s, d, p, a, b⟩) := by
          rintro ⟨r0, r1, r2, r3, r4⟩
          simp only at r3
          omega
        go_wp2_with fail
        go_ret
        exact ⟨false, rfl, ⟨fun h => (by cases h), fun h => absurd h NR.out⟩, B1.out⟩
      by_cases c2 : 65535 < a
      · have NR : Hid (¬ RightF ⟨s, d, p, a, b⟩) := by
          rintro ⟨r0, r1, r2, r3, r4⟩
          simp only at r3
          omega
        go_wp2_with fail
        go_ret
        exact ⟨false, rfl, ⟨fun h => (by cases h), fun h => absurd h NR.out⟩, B1.out⟩
      go_wp2_with fail
      go_round
      case rel =>
        refine ⟨1, ⟨by omega, fun j hj => ?_⟩, by go_num⟩
        by_cases e : j = 0
        · subst e
          show 0 ≤ a ∧ a ≤ 65535
          omega
        · exact HK.out j (by omega)
      case measure => decide
    · by_cases c1 : b < 0
      · have NR : Hid (¬ RightF ⟨s, d, p, a, b⟩) := by
          rintro ⟨r0, r1, r2, r3, r4⟩
          simp only at r4
          omega
        go_wp2_with fail
        go_ret
        exact ⟨false, rfl, ⟨fun h => (by cases h), fun h => absurd h NR.out⟩, B1.out⟩
      by_cases c2 : 65535 < b
      · have NR : Hid (¬ RightF ⟨s, d, p, a, b⟩) := by
          rintro ⟨r0, r1, r2, r3, r4⟩
          simp only at r4
          omega
        go_wp2_with fail
        go_ret
        exact ⟨false, rfl, ⟨fun h => (by cases h), fun h => absurd h NR.out⟩, B1.out⟩
      go_wp2_with fail
      go_round
      case rel =>
        refine ⟨2, ⟨by omega, fun j hj => ?_⟩, by go_num⟩
        by_cases e : j = 1
        · subst e
          show 0 ≤ b ∧ b ≤ 65535
          omega
        · exact HK.out j (by omega)
      case measure => decide
    · by_cases c1 : M < 0
      · have NR : Hid (¬ RightF ⟨s, d, p, a, b⟩) := by
          rintro ⟨r0, r1, r2, r3, r4⟩
          have := HM.out r2
          omega
        go_wp2_with fail
        go_ret
        exact ⟨false, rfl, ⟨fun h => (by cases h), fun h => absurd h NR.out⟩, B1.out⟩
      by_cases c2 : 65535 < M
      · have NR : Hid (¬ RightF ⟨s, d, p, a, b⟩) := by
          rintro ⟨r0, r1, r2, r3, r4⟩
          have := HM.out r2
          omega
        go_wp2_with fail
        go_ret
        exact ⟨false, rfl, ⟨fun h => (by cases h), fun h => absurd h NR.out⟩, B1.out⟩
      go_wp2_with fail
      go_round
      case rel =>
        refine ⟨3, ⟨by omega, fun j hj => ?_⟩, by go_num⟩
        by_cases e : j = 2
        · subst e
          show 0 ≤ M ∧ M ≤ 65535
          omega
        · exact HK.out j (by omega)
      case measure => decide
    · by_cases d0 : s.length = 16
      rotate_left
      · have NR : Hid (¬ RightF ⟨s, d, p, a, b⟩) := by
          rintro ⟨r0, r1, r2, r3, r4⟩
          exact d0 r0
        have q0 : ((s.length : Int) == 16) = false := by simp; omega
        clear d0
        go_wp2_with fail
        go_ret
        exact ⟨false, rfl, ⟨fun h => (by cases h), fun h => absurd h NR.out⟩, B1.out⟩
      have C0 : Hid (s.length = 16) := d0
      have q0 : ((s.length : Int) == 16) = true := by simp; omega
      clear d0
      by_cases d1 : d.length = 16
      rotate_left
      · have NR : Hid (¬ RightF ⟨s, d, p, a, b⟩) := by
          rintro ⟨r0, r1, r2, r3, r4⟩
          exact d1 r1
        have q1 : ((d.length : Int) == 16) = false := by simp; omega
        clear d1
        go_wp2_with fail
        go_ret
        exact ⟨false, rfl, ⟨fun h => (by cases h), fun h => absurd h NR.out⟩, B1.out⟩
      have C1 : Hid (d.length = 16) := d1
      have q1 : ((d.length : Int) == 16) = true := by simp; omega
      clear d1
      by_cases c3 : 0 ≤ p
      rotate_left
      · have NR : Hid (¬ RightF ⟨s, d, p, a, b⟩) := by
          rintro ⟨r0, r1, r2, r3, r4⟩
          simp only at r2
          omega
        go_wp2_with fail
        go_ret
        exact ⟨false, rfl, ⟨fun h => (by cases h), fun h => absurd h NR.out⟩, B1.out⟩
      by_cases c4 : p < 256
      rotate_left
      · have NR : Hid (¬ RightF ⟨s, d, p, a, b⟩) := by
          rintro ⟨r0, r1, r2, r3, r4⟩
          simp only at r2
          omega
        go_wp2_with fail
        go_ret
        exact ⟨false, rfl, ⟨fun h => (by cases h), fun h => absurd h NR.out⟩, B1.out⟩
      have YR : Hid (RightF ⟨s, d, p, a, b⟩) := ⟨C0.out, C1.out, by show 0 ≤ p ∧ p ≤ 255; omega, HK.out 0 (by omega), HK.out 1 (by omega)⟩
      go_wp2_with fail
      go_ret
      exact ⟨true, rfl, ⟨fun h => YR.out, fun h => rfl⟩, B1.out⟩
theorem key_bytes {P A B : Nat} (hP : P < 256) (hA : A < 65536) (hB : B < 65536) : ([UInt8.ofNat P, UInt8.ofNat (A / 256), UInt8.ofNat (A % 256), UInt8.ofNat (B / 256), UInt8.ofNat (B % 256)].map fun c => Value.int .u8 (c.toNat : Int)).toArray = #[.int .u8 (P : Int), .int .u8 ((A : Int) / 256), .int .u8 ((A : Int) % 256), .int .u8 ((B : Int) / 256), .int .u8 ((B : Int) % 256)] := by
  have e : ∀ n, n < 256 → (UInt8.ofNat n).toNat = n := fun n h => UInt8.toNat_ofNat_of_lt' h
  simp only [List.map_cons, List.map_nil]
  rw [e P hP, e (A / 256) (by omega), e (A % 256) (by omega), e (B / 256) (by omega), e (B % 256) (by omega)]
  simp
theorem key_five {P A B : Nat} (hP : P < 256) (hA : A < 65536) (hB : B < 65536) : [UInt8.ofNat P, UInt8.ofNat (A / 256), UInt8.ofNat (A % 256), UInt8.ofNat (B / 256), UInt8.ofNat (B % 256)] = bytesL P 1 ++ bytesL A 2 ++ bytesL B 2 := by
  rw [bytes_two, bytes_two, Ip6.one_is P hP, Nat.mod_eq_of_lt (show A / 256 < 256 by omega), Nat.mod_eq_of_lt (show B / 256 < 256 by omega)]
  rfl
set_option maxHeartbeats 1600000 in
theorem fl_rkey (w : World) (s d : List UInt8) (P A B : Nat) (hR : RightF ⟨s, d, P, A, B⟩) : Calls Try.prog 16 #[.agg #[.string (bsL s), .string (bsL d), .int .i64 (P : Int), .int .i64 (A : Int), .int .i64 (B : Int)]] w fun e w' => e = .returned (.string (bsL (keyL s d P A B))) ∧ Below w.heap.size w w' := by
  obtain ⟨r1, r2, r3, r4, r5⟩ := hR
  simp only at r1 r2 r3 r4 r5
  have P1 : P < 256 := by omega
  have A1 : A < 65536 := by omega
  have B1 : B < 65536 := by omega
  obtain ⟨z, hz⟩ : ∃ z, z = bytesL P 1 ++ bytesL A 2 ++ bytesL B 2 := ⟨_, rfl⟩
  have lz : z.length = 5 := by rw [hz]; simp [bytesL_len]
  have FIN : Hid (s ++ (d ++ z) = keyL s d P A B) := by
    show _ = _
    unfold keyL
    rw [hz]
    simp only [List.append_assoc]
  have cv : (convert 51 9 (.slice (some ⟨w.heap.size + 1, 0, none⟩) 5 5)).run Try.prog ((w.alloc (.cells #[.string (bsL s), .string (bsL d), .int .i64 (P : Int), .int .i64 (A : Int), .int .i64 (B : Int)] 24)).alloc (.cells #[.int .u8 (P : Int), .int .u8 ((A : Int) / 256), .int .u8 ((A : Int) % 256), .int .u8 ((B : Int) / 256), .int .u8 ((B : Int) % 256)] 5)) = .ok (.string (bsL z)) ((w.alloc (.cells #[.string (bsL s), .string (bsL d), .int .i64 (P : Int), .int .i64 (A : Int), .int .i64 (B : Int)] 24)).alloc (.cells #[.int .u8 (P : Int), .int .u8 ((A : Int) / 256), .int .u8 ((A : Int) % 256), .int .u8 ((B : Int) / 256), .int .u8 ((B : Int) % 256)] 5)) := by
    have nb := Blk.new (w.alloc (.cells #[.string (bsL s), .string (bsL d), .int .i64 (P : Int), .int .i64 (A : Int), .int .i64 (B : Int)] 24)) 5 #[.int .u8 (P : Int), .int .u8 ((A : Int) / 256), .int .u8 ((A : Int) % 256), .int .u8 ((B : Int) / 256), .int .u8 ((B : Int) % 256)]
    rw [← key_bytes P1 A1 B1] at nb
    have e := conv_blk _ nb
    rw [key_bytes P1 A1 B1, key_five P1 A1 B1, ← hz] at e
    simpa [lz] using e
  have BB : Hid (Below w.heap.size w ((w.alloc (.cells #[.string (bsL s), .string (bsL d), .int .i64 (P : Int), .int .i64 (A : Int), .int .i64 (B : Int)] 24)).alloc (.cells #[.int .u8 (P : Int), .int .u8 ((A : Int) / 256), .int .u8 ((A : Int) % 256), .int .u8 ((B : Int) / 256), .int .u8 ((B : Int) % 256)] 5))) := bel_trans (bel_alloc _ _) (bel_alloc _ _)
  clear r3 r4 r5 hz
  go_enter Try.func16, Try.ntmps16
  go_wp2_with fail
  go_ret
  refine ⟨?_, BB.out⟩
  rw [← FIN.out]
  rfl
/-- What the document's Of tells of any key. -/
def Viewed (w : World) (k : List UInt8) (e : Ending) (w' : World) : Prop := ∃ (s d : List UInt8) (p : Int) (a b : Nat), e = .returned (.tuple #[.agg #[.string (bsL s), .string (bsL d), .int .i64 p, .int .i64 (a : Int), .int .i64 (b : Int)], .bool (decide (k.length = 37))]) ∧ viewOf k = ⟨s, d, p, a, b⟩ ∧ Below w.heap.size w w'
set_option maxHeartbeats 3200000 in
theorem fl_rof (w : World) (k : List UInt8) (hl : k.length ≤ 1152921504606846976) : Calls Try.prog 19 #[.string (bsL k)] w (Viewed w k) := by
  have B0 : Hid (Below w.heap.size w (w.alloc (.cells #[.string ⟨#[]⟩, .string ⟨#[]⟩, .int .i64 0, .int .i64 0, .int .i64 0] 24))) := bel_alloc _ _
  by_cases h : k.length = 37
  rotate_left
  · have q : ((k.length : Int) != 37) = true := by simp; omega
    have E : Hid (viewOf k = zeroFw ∧ decide (k.length = 37) = false) := ⟨view_no h, decide_eq_false h⟩
    go_enter Try.func19, Try.ntmps19
    go_wp2_with fail
    go_returns
    exact ⟨[], [], 0, 0, 0, by rw [E.out.2]; rfl, E.out.1, B0.out⟩
  have q : ((k.length : Int) != 37) = false := by simp; omega
  have z1 := bsL_take k 16
  have z2 := bsL_extract k 16 32
  rw [show 32 - 16 = 16 from rfl] at z2
  obtain ⟨s, hs⟩ : ∃ s, s = k.take 16 := ⟨_, rfl⟩
  obtain ⟨d, hd⟩ : ∃ d, d = (k.drop 16).take 16 := ⟨_, rfl⟩
  obtain ⟨P, hP⟩ : ∃ P, P = atL k 32 := ⟨_, rfl⟩
  obtain ⟨a1, ha1⟩ : ∃ P, P = atL k 33 := ⟨_, rfl⟩
  obtain ⟨a2, ha2⟩ : ∃ P, P = atL k 34 := ⟨_, rfl⟩
  obtain ⟨b1, hb1⟩ : ∃ P, P = atL k 35 := ⟨_, rfl⟩
  obtain ⟨b2, hb2⟩ : ∃ P, P = atL k 36 := ⟨_, rfl⟩
  obtain ⟨A, hA⟩ : ∃ A, A = 256 * a1 + a2 := ⟨_, rfl⟩
  obtain ⟨B, hB⟩ : ∃ A, A = 256 * b1 + b2 := ⟨_, rfl⟩
  have E : Hid (viewOf k = ⟨s, d, P, A, B⟩ ∧ decide (k.length = 37) = true) := by
    refine ⟨?_, decide_eq_true h⟩
    rw [view_yes h, hs, hd, hP, nAt_one k 32 (by omega), hA, hB, ha1, ha2, hb1, hb2, show nAt k 33 2 = pairL k 33 from Ip4.num_two k 33 (by omega), show nAt k 35 2 = pairL k 35 from Ip4.num_two k 35 (by omega)]
    rfl
  have g0 := atL_lt k 32
  have g1 := atL_lt k 33
  have g2 := atL_lt k 34
  have g3 := atL_lt k 35
  have g4 := atL_lt k 36
  rw [← hP] at g0
  rw [← ha1] at g1
  rw [← ha2] at g2
  rw [← hb1] at g3
  rw [← hb2] at g4
  rw [← hs] at z1
  rw [← hd] at z2
  have i16 : (16 : Int) ≤ k.length := by omega
  have i32 : (32 : Int) ≤ k.length := by omega
  have j32 : (32 : Int) < k.length := by omega
  have j33 : (33 : Int) < k.length := by omega
  have j34 : (34 : Int) < k.length := by omega
  have j35 : (35 : Int) < k.length := by omega
  have j36 : (36 : Int) < k.length := by omega
  have n32 : 32 < k.length := by omega
  have n33 : 33 < k.length := by omega
  have n34 : 34 < k.length := by omega
  have n35 : 35 < k.length := by omega
  have n36 : 36 < k.length := by omega
  have zA : (256 : Int) * (a1 : Int) + (a2 : Int) = (A : Int) := by omega
  have zB : (256 : Int) * (b1 : Int) + (b2 : Int) = (B : Int) := by omega
  have w0 : IntKind.i64.wrap (P : Int) = (P : Int) := by rw [IntKind.wrap_i64]; omega
  have w1 : IntKind.i64.wrap (a1 : Int) = (a1 : Int) := by rw [IntKind.wrap_i64]; omega
  have w2 : IntKind.i64.wrap (a2 : Int) = (a2 : Int) := by rw [IntKind.wrap_i64]; omega
  have w3 : IntKind.i64.wrap (b1 : Int) = (b1 : Int) := by rw [IntKind.wrap_i64]; omega
  have w4 : IntKind.i64.wrap (b2 : Int) = (b2 : Int) := by rw [IntKind.wrap_i64]; omega
  have w5 : IntKind.i64.wrap ((256 : Int) * (a1 : Int)) = (256 : Int) * (a1 : Int) := by rw [IntKind.wrap_i64]; omega
  have w6 : IntKind.i64.wrap ((256 : Int) * (b1 : Int)) = (256 : Int) * (b1 : Int) := by rw [IntKind.wrap_i64]; omega
  have w7 : IntKind.i64.wrap (A : Int) = (A : Int) := by rw [IntKind.wrap_i64]; omega
  have w8 : IntKind.i64.wrap (B : Int) = (B : Int) := by rw [IntKind.wrap_i64]; omega
  have l0 : atL k 32 = P := hP.symm
  have l1 : atL k 33 = a1 := ha1.symm
  have l2 : atL k 34 = a2 := ha2.symm
  have l3 : atL k 35 = b1 := hb1.symm
  have l4 : atL k 36 = b2 := hb2.symm
  clear hs hd hP ha1 ha2 hb1 hb2 hA hB h
  go_enter Try.func19, Try.ntmps19
  go_wp2_with fail
  refine wp_region_noPanic ?_
  refine wp_region_held_drew (S := fun _ => True) (by kernel_rfl) trivial (fun hHeld => ?_)
  refine wpAnyH_take (i := 0) (v := ?_) rfl (by kernel_rfl) (by kernel_rfl) (by kernel_rfl) (fun _ _ _ h => h) (Or.inl ⟨by rfl, ?_⟩) trivial ?_
  rotate_left
  · intro w hSw; go_simp; first | done | with_reducible rfl
  simp only [List.getElem_toArray, List.getElem_cons_zero, Act.put, List.setIfInBounds_toArray, List.set_cons_zero, List.set_cons_succ]
  refine wpAnyH_take (i := 1) (v := ?_) rfl (by kernel_rfl) (by kernel_rfl) (by kernel_rfl) (fun _ _ _ h => h) (Or.inl ⟨by rfl, ?_⟩) trivial ?_
  rotate_left
  · intro w hSw; go_simp; first | done | with_reducible rfl
  simp only [List.getElem_toArray, List.getElem_cons_zero, List.getElem_cons_succ, Act.put, List.setIfInBounds_toArray, List.set_cons_zero, List.set_cons_succ]
  refine wpAnyH_take (i := 2) (v := ?_) rfl (by kernel_rfl) (by kernel_rfl) (by kernel_rfl) (fun _ _ _ h => h) (Or.inl ⟨by rfl, ?_⟩) trivial ?_
  rotate_left
  · intro w hSw; go_simp; first | done | with_reducible rfl
  simp only [List.getElem_toArray, List.getElem_cons_zero, List.getElem_cons_succ, Act.put, List.setIfInBounds_toArray, List.set_cons_zero, List.set_cons_succ]
  refine wpAnyH_take (i := 3) (v := ?_) rfl (by kernel_rfl) (by kernel_rfl) (by kernel_rfl) (fun _ _ _ h => h) (Or.inl ⟨by rfl, ?_⟩) trivial ?_
  rotate_left
  · intro w hSw; go_simp; first | done | with_reducible rfl
  simp only [List.getElem_toArray, List.getElem_cons_zero, List.getElem_cons_succ, Act.put, List.setIfInBounds_toArray, List.set_cons_zero, List.set_cons_succ]
  refine wpAnyH_take (i := 4) (v := ?_) rfl (by kernel_rfl) (by kernel_rfl) (by kernel_rfl) (fun _ _ _ h => h) (Or.inl ⟨by rfl, ?_⟩) trivial ?_
  rotate_left
  · intro w hSw; go_simp; first | done | with_reducible rfl
  simp only [List.getElem_toArray, List.getElem_cons_zero, List.getElem_cons_succ, Act.put, List.setIfInBounds_toArray, List.set_cons_zero, List.set_cons_succ]
  refine wpAnyH_take (i := 5) (v := ?_) rfl (by kernel_rfl) (by kernel_rfl) (by kernel_rfl) (fun _ _ _ h => h) (Or.inl ⟨by rfl, ?_⟩) trivial ?_
  rotate_left
  · intro w hSw; go_simp; first | done | with_reducible rfl
  simp only [List.getElem_toArray, List.getElem_cons_zero, List.getElem_cons_succ, Act.put, List.setIfInBounds_toArray, List.set_cons_zero, List.set_cons_succ]
  refine wpAnyH_take (i := 6) (v := ?_) rfl (by kernel_rfl) (by kernel_rfl) (by kernel_rfl) (fun _ _ _ h => h) (Or.inl ⟨by rfl, ?_⟩) trivial ?_
  rotate_left
  · intro w hSw; go_simp; first | done | with_reducible rfl
  simp only [List.getElem_toArray, List.getElem_cons_zero, List.getElem_cons_succ, Act.put, List.setIfInBounds_toArray, List.set_cons_zero, List.set_cons_succ]
  refine wpAnyH_take (i := 7) (v := ?_) rfl (by kernel_rfl) (by kernel_rfl) (by kernel_rfl) (fun _ _ _ h => h) (Or.inl ⟨by rfl, ?_⟩) trivial ?_
  rotate_left
  · intro w hSw; go_simp; first | done | with_reducible rfl
  simp only [List.getElem_toArray, List.getElem_cons_zero, List.getElem_cons_succ, Act.put, List.setIfInBounds_toArray, List.set_cons_zero, List.set_cons_succ]
  refine wpAnyH_take (i := 8) (v := ?_) rfl (by kernel_rfl) (by kernel_rfl) (by kernel_rfl) (fun _ _ _ h => h) (Or.inl ⟨by rfl, ?_⟩) trivial ?_
  rotate_left
  · intro w hSw; go_simp; first | done | with_reducible rfl
  simp only [List.getElem_toArray, List.getElem_cons_zero, List.getElem_cons_succ, Act.put, List.setIfInBounds_toArray, List.set_cons_zero, List.set_cons_succ]
  refine wpAnyH_take (i := 9) (v := ?_) rfl (by kernel_rfl) (by kernel_rfl) (by kernel_rfl) (fun _ _ _ h => h) (Or.inl ⟨by rfl, ?_⟩) trivial ?_
  rotate_left
  · intro w hSw; go_simp; first | done | with_reducible rfl
  simp only [List.getElem_toArray, List.getElem_cons_zero, List.getElem_cons_succ, Act.put, List.setIfInBounds_toArray, List.set_cons_zero, List.set_cons_succ]
  refine wpAnyH_take (i := 10) (v := ?_) rfl (by kernel_rfl) (by kernel_rfl) (by kernel_rfl) (fun _ _ _ h => h) (Or.inl ⟨by rfl, ?_⟩) trivial ?_
  rotate_left
  · intro w hSw; go_simp; first | done | with_reducible rfl
  simp only [List.getElem_toArray, List.getElem_cons_zero, List.getElem_cons_succ, Act.put, List.setIfInBounds_toArray, List.set_cons_zero, List.set_cons_succ]
  refine wpAnyH_take (i := 11) (v := ?_) rfl (by kernel_rfl) (by kernel_rfl) (by kernel_rfl) (fun _ _ _ h => h) (Or.inl ⟨by rfl, ?_⟩) trivial ?_
  rotate_left
  · intro w hSw; go_simp; first | done | with_reducible rfl
  simp only [List.getElem_toArray, List.getElem_cons_zero, List.getElem_cons_succ, Act.put, List.setIfInBounds_toArray, List.set_cons_zero, List.set_cons_succ]
  refine wpAnyH_take (i := 12) (v := ?_) rfl (by kernel_rfl) (by kernel_rfl) (by kernel_rfl) (fun _ _ _ h => h) (Or.inl ⟨by rfl, ?_⟩) trivial ?_
  rotate_left
  · intro w hSw; go_simp; first | done | with_reducible rfl
  simp only [List.getElem_toArray, List.getElem_cons_zero, List.getElem_cons_succ, Act.put, List.setIfInBounds_toArray, List.set_cons_zero, List.set_cons_succ]
  refine wpAnyH_take (i := 13) (v := ?_) rfl (by kernel_rfl) (by kernel_rfl) (by kernel_rfl) (fun _ _ _ h => h) (Or.inl ⟨by rfl, ?_⟩) trivial ?_
  rotate_left
  · intro w hSw; go_simp; first | done | with_reducible rfl
  simp only [List.getElem_toArray, List.getElem_cons_zero, List.getElem_cons_succ, Act.put, List.setIfInBounds_toArray, List.set_cons_zero, List.set_cons_succ]
  refine wpAnyH_take (i := 14) (v := ?_) rfl (by kernel_rfl) (by kernel_rfl) (by kernel_rfl) (fun _ _ _ h => h) (Or.inl ⟨by rfl, ?_⟩) trivial ?_
  rotate_left
  · intro w hSw; go_simp; first | done | with_reducible rfl
  simp only [List.getElem_toArray, List.getElem_cons_zero, List.getElem_cons_succ, Act.put, List.setIfInBounds_toArray, List.set_cons_zero, List.set_cons_succ]
  refine wpAnyH_take (i := 15) (v := ?_) rfl (by kernel_rfl) (by kernel_rfl) (by kernel_rfl) (fun _ _ _ h => h) (Or.inl ⟨by rfl, ?_⟩) trivial ?_
  rotate_left
  · intro w hSw; go_simp; first | done | with_reducible rfl
  simp only [List.getElem_toArray, List.getElem_cons_zero, List.getElem_cons_succ, Act.put, List.setIfInBounds_toArray, List.set_cons_zero, List.set_cons_succ]
  refine wpAnyH_take (i := 16) (v := ?_) rfl (by kernel_rfl) (by kernel_rfl) (by kernel_rfl) (fun _ _ _ h => h) (Or.inl ⟨by rfl, ?_⟩) trivial ?_
  rotate_left
  · intro w hSw; go_simp; first | done | with_reducible rfl
  simp only [List.getElem_toArray, List.getElem_cons_zero, List.getElem_cons_succ, Act.put, List.setIfInBounds_toArray, List.set_cons_zero, List.set_cons_succ]
  refine wpAnyH_take (i := 17) (v := ?_) rfl (by kernel_rfl) (by kernel_rfl) (by kernel_rfl) (fun _ _ _ h => h) (Or.inl ⟨by rfl, ?_⟩) trivial ?_
  rotate_left
  · intro w hSw; go_simp; first | done | with_reducible rfl
  simp only [List.getElem_toArray, List.getElem_cons_zero, List.getElem_cons_succ, Act.put, List.setIfInBounds_toArray, List.set_cons_zero, List.set_cons_succ]
  refine wpAnyH_take (i := 18) (v := ?_) rfl (by kernel_rfl) (by kernel_rfl) (by kernel_rfl) (fun _ _ _ h => h) (Or.inl ⟨by rfl, ?_⟩) trivial ?_
  rotate_left
  · intro w hSw; go_simp; first | done | with_reducible rfl
  simp only [List.getElem_toArray, List.getElem_cons_zero, List.getElem_cons_succ, Act.put, List.setIfInBounds_toArray, List.set_cons_zero, List.set_cons_succ]
  refine wpAnyH_take (i := 19) (v := ?_) rfl (by kernel_rfl) (by kernel_rfl) (by kernel_rfl) (fun _ _ _ h => h) (Or.inl ⟨by rfl, ?_⟩) trivial ?_
  rotate_left
  · intro w hSw; go_simp; first | done | with_reducible rfl
  simp only [List.getElem_toArray, List.getElem_cons_zero, List.getElem_cons_succ, Act.put, List.setIfInBounds_toArray, List.set_cons_zero, List.set_cons_succ]
  refine wpAnyH_take (i := 20) (v := ?_) rfl (by kernel_rfl) (by kernel_rfl) (by kernel_rfl) (fun _ _ _ h => h) (Or.inl ⟨by rfl, ?_⟩) trivial ?_
  rotate_left
  · intro w hSw; go_simp; first | done | with_reducible rfl
  simp only [List.getElem_toArray, List.getElem_cons_zero, List.getElem_cons_succ, Act.put, List.setIfInBounds_toArray, List.set_cons_zero, List.set_cons_succ]
  refine wpAnyH_take (i := 21) (v := ?_) rfl (by kernel_rfl) (by kernel_rfl) (by kernel_rfl) (fun _ _ _ h => h) (Or.inl ⟨by rfl, ?_⟩) trivial ?_
  rotate_left
  · intro w hSw; go_simp; first | done | with_reducible rfl
  simp only [List.getElem_toArray, List.getElem_cons_zero, List.getElem_cons_succ, Act.put, List.setIfInBounds_toArray, List.set_cons_zero, List.set_cons_succ]
  refine wpAnyH_take (i := 22) (v := ?_) rfl (by kernel_rfl) (by kernel_rfl) (by kernel_rfl) (fun _ _ _ h => h) (Or.inl ⟨by rfl, ?_⟩) trivial ?_
  rotate_left
  · intro w hSw; go_simp; first | done | with_reducible rfl
  simp only [List.getElem_toArray, List.getElem_cons_zero, List.getElem_cons_succ, Act.put, List.setIfInBounds_toArray, List.set_cons_zero, List.set_cons_succ]
  refine wpAnyH_take (i := 23) (v := ?_) rfl (by kernel_rfl) (by kernel_rfl) (by kernel_rfl) (fun _ _ _ h => h) (Or.inl ⟨by rfl, ?_⟩) trivial ?_
  rotate_left
  · intro w hSw; go_simp; first | done | with_reducible rfl
  simp only [List.getElem_toArray, List.getElem_cons_zero, List.getElem_cons_succ, Act.put, List.setIfInBounds_toArray, List.set_cons_zero, List.set_cons_succ]
  refine wpAnyH_ready (rs := [24]) (by kernel_rfl) (by simp) ?_
  refine AllReadyH.cons rfl (fun K hK => ?_) ?_
  rotate_left
  · exact AllReadyH.nil
  go_simp
  refine hK.out _ _ trivial (fun hHeld => ?_)
  clear hK K
  refine wpAnyH_take (i := 25) (v := ?_) rfl (by kernel_rfl) (by kernel_rfl) (by kernel_rfl) (fun _ _ _ h => h) (Or.inl ⟨by rfl, ?_⟩) trivial ?_
  rotate_left
  · intro w hSw; go_simp; first | done | with_reducible rfl
  simp only [List.getElem_toArray, List.getElem_cons_zero, List.getElem_cons_succ, Act.put, List.setIfInBounds_toArray, List.set_cons_zero, List.set_cons_succ]
  refine wpAnyH_done (by kernel_rfl) ?_ _
  refine NoPanic.normal ?_
  clear w0 w1 w2 w3 w4 w5 w6 w7 w8 zA zB l0 l1 l2 l3 l4 z1 z2
  go_wp2_with fail
  go_returns
  exact ⟨s, d, P, A, B, by rw [E.out.2], E.out.1, (bel_alloc _ _).drew⟩
end Go.Proofs.Yticopigpgaomjaa
