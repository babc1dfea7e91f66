/-
  TCP and UDP of layer 8 (port): what they answer; the laws' fixed answer.
-/
import Derived.Test.YtjecmkibddmheaaPortTake
import Derived.Test.YtjecmkibddmheaaRepeat
namespace Go.Proofs.Ytjecmkibddmheaa
open Go.RowKit Oc Pt Go.Deep
set_option linter.unusedVariables false

set_option maxHeartbeats 400000 in
theorem isport_yes (N : Nat) (w : World) (h : N < 65536) :
    Calls Try.prog 19 #[.int .i64 (N : Int)] w fun e w' => e = .returned (.bool true) ∧ w' = w := by
  have a : (N : Int) ≤ 65535 := by omega
  go_enter Try.func19, Try.ntmps19
  go_wp2_with fail
  go_ret
  exact ⟨rfl, rfl⟩
set_option maxHeartbeats 400000 in
theorem isport_no (n : Int) (w : World) (h : ¬ (0 ≤ n ∧ n < 65536)) :
    Calls Try.prog 19 #[.int .i64 n] w fun e w' => e = .returned (.bool false) ∧ w' = w := by
  by_cases h1 : 0 ≤ n
  · have h2 : ¬ n ≤ 65535 := by omega
    clear h
    go_enter Try.func19, Try.ntmps19
    go_wp2_with fail
    go_ret
    exact ⟨rfl, rfl⟩
  · clear h
    go_enter Try.func19, Try.ntmps19
    go_wp2_with fail
    go_ret
    exact ⟨rfl, rfl⟩
set_option maxHeartbeats 400000 in
theorem pnumber (N k : Nat) (w : World) (h1 : 1 ≤ k) (h2 : k ≤ 7) (h : N < 256 ^ k) :
    Calls Try.prog 22 #[.int .i64 (N : Int), .int .i64 (k : Int)] w fun e w' => e = .returned (.string (bsL (bytesL N k))) ∧ Below w.heap.size w w' := by
  have H : Hid (N < 256 ^ k) := h
  clear h
  go_enter Try.func22, Try.ntmps22
  go_wp2_with fail
  refine (put_ok N k _ h1 h2 H.out).mono ?_
  rintro e u1 ⟨rfl, b1⟩
  go_wp2_with fail
  go_ret
  exact ⟨rfl, b1⟩
set_option maxHeartbeats 400000 in
theorem pnoughts (n : Nat) (w : World) (h : n ≤ 140737488355328) :
    Calls Try.prog 21 #[.int .i64 (n : Int)] w fun e w' => e = .returned (.string (bsL (zerosL n))) ∧ Below w.heap.size w w' := by
  go_enter Try.func21, Try.ntmps21
  go_wp2_with fail
  refine (repeat_any n _ h).mono ?_
  rintro e u1 ⟨rfl, b1⟩
  go_wp2_with fail
  go_ret
  exact ⟨rfl, b1⟩
set_option maxHeartbeats 400000 in
theorem pports (A B : Nat) (w : World) (hA : A < 65536) (hB : B < 65536) :
    Calls Try.prog 20 #[.int .i64 (A : Int), .int .i64 (B : Int)] w fun e w' => e = .returned (.string (bsL (bytesL A 2 ++ bytesL B 2))) ∧ Below w.heap.size w w' := by
  have l1 := bytesL_len A 2
  have l2 := bytesL_len B 2
  go_enter Try.func20, Try.ntmps20
  go_wp2_with fail
  refine (pnumber A 2 _ (by omega) (by omega) (by omega)).mono ?_
  rintro e u1 ⟨rfl, b1⟩
  go_wp2_with fail
  refine (pnumber B 2 _ (by omega) (by omega) (by omega)).mono ?_
  rintro e u2 ⟨rfl, b2⟩
  go_wp2_with fail
  go_ret
  exact ⟨rfl, bel_trans b1 b2⟩

/-- A port's number. -/
def PortN (n : Int) : Prop := 0 ≤ n ∧ n < 65536
set_option maxHeartbeats 1600000 in
theorem tcp_bad (n m : Int) (o b : List UInt8) (w : World) (hl : o.length ≤ 1152921504606846976) (h : ¬ (PortN n ∧ PortN m ∧ o.length ≤ 40 ∧ o.length % 4 = 0)) :
    Calls Try.prog 11 #[.int .i64 n, .int .i64 m, .string (bsL o), .string (bsL b)] w fun e w' => e = .returned (.tuple #[.string ⟨#[]⟩, .int .i64 1]) ∧ Below w.heap.size w w' := by
  by_cases h1 : PortN n
  rotate_left
  · have H : Hid (¬ PortN n) := h1
    clear h h1
    go_enter Try.func11, Try.ntmps11
    go_wp2_with fail
    refine (isport_no n _ H.out).mono ?_
    rintro e u1 ⟨rfl, rfl⟩
    go_wp2_with fail
    go_returns
    exact ⟨rfl, Below.refl _ _⟩
  obtain ⟨A, rfl⟩ : ∃ A : Nat, n = A := ⟨n.toNat, by have := h1.1; omega⟩
  have hA : A < 65536 := by have := h1.2; omega
  by_cases h2 : PortN m
  rotate_left
  · have H : Hid (¬ PortN m) := h2
    clear h h1 h2
    go_enter Try.func11, Try.ntmps11
    go_wp2_with fail
    refine (isport_yes A _ hA).mono ?_
    rintro e u1 ⟨rfl, rfl⟩
    go_wp2_with fail
    refine (isport_no m _ H.out).mono ?_
    rintro e u2 ⟨rfl, rfl⟩
    go_wp2_with fail
    go_returns
    exact ⟨rfl, Below.refl _ _⟩
  obtain ⟨B, rfl⟩ : ∃ B : Nat, m = B := ⟨m.toNat, by have := h2.1; omega⟩
  have hB : B < 65536 := by have := h2.2; omega
  have H : Hid (¬ (o.length ≤ 40 ∧ o.length % 4 = 0)) := fun x => h ⟨h1, h2, x.1, x.2⟩
  clear h h1 h2
  by_cases h3 : 40 < o.length
  · clear H
    go_enter Try.func11, Try.ntmps11
    go_wp2_with fail
    refine (isport_yes A _ hA).mono ?_
    rintro e u1 ⟨rfl, rfl⟩
    go_wp2_with fail
    refine (isport_yes B _ hB).mono ?_
    rintro e u2 ⟨rfl, rfl⟩
    go_wp2_with fail
    go_returns
    exact ⟨rfl, Below.refl _ _⟩
  · have i4 : ((o.length : Int) % 4 != 0) = true := by
      have := H.out
      simp
      omega
    clear H
    go_enter Try.func11, Try.ntmps11
    go_wp2_with fail
    refine (isport_yes A _ hA).mono ?_
    rintro e u1 ⟨rfl, rfl⟩
    go_wp2_with fail
    refine (isport_yes B _ hB).mono ?_
    rintro e u2 ⟨rfl, rfl⟩
    go_wp2_with fail
    go_returns
    exact ⟨rfl, Below.refl _ _⟩
set_option maxHeartbeats 1600000 in
theorem tcp_ok (A B : Nat) (o b : List UInt8) (w : World) (hA : A < 65536) (hB : B < 65536) (ho : o.length ≤ 40) (h4 : o.length % 4 = 0) (hb : b.length ≤ 1152921504606846976) :
    Calls Try.prog 11 #[.int .i64 (A : Int), .int .i64 (B : Int), .string (bsL o), .string (bsL b)] w fun e w' => e = .returned (.tuple #[.string (bsL (tcpL A B o b)), .int .i64 0]) ∧ Below w.heap.size w w' := by
  have i4 : ((o.length : Int) % 4 != 0) = false := by simp; omega
  have c0 : ¬ 40 < o.length := by omega
  obtain ⟨X, hX⟩ : ∃ X, X = (20 + o.length) / 4 := ⟨_, rfl⟩
  obtain ⟨G, hG⟩ : ∃ G, G = 4 * (20 + o.length) := ⟨_, rfl⟩
  have z1 : ((20 : Int) + (o.length : Int)) / 4 = (X : Int) := by omega
  have z2 : (X : Int) * 16 = (G : Int) := by omega
  have X1 : X ≤ 15 := by omega
  have G1 : G < 256 := by omega
  obtain ⟨x1, hx1⟩ : ∃ x, x = bytesL A 2 ++ bytesL B 2 := ⟨_, rfl⟩
  obtain ⟨x2, hx2⟩ : ∃ x, x = zerosL 8 := ⟨_, rfl⟩
  obtain ⟨x3, hx3⟩ : ∃ x, x = bytesL G 1 := ⟨_, rfl⟩
  obtain ⟨x4, hx4⟩ : ∃ x, x = zerosL 7 := ⟨_, rfl⟩
  have l1 : x1.length = 4 := by rw [hx1, List.length_append, bytesL_len, bytesL_len]
  have l2 : x2.length = 8 := by rw [hx2, zerosL_len]
  have l3 : x3.length = 1 := by rw [hx3, bytesL_len]
  have l4 : x4.length = 7 := by rw [hx4, zerosL_len]
  have FIN : Hid (x1 ++ (x2 ++ (x3 ++ (x4 ++ (o ++ b)))) = tcpL A B o b) := by
    show _ = _
    unfold tcpL
    rw [hx1, hx2, hx3, hx4, hG]
    simp only [List.append_assoc]
  have HX1 : Hid (bytesL A 2 ++ bytesL B 2 = x1) := hx1.symm
  have HX2 : Hid (zerosL 8 = x2) := hx2.symm
  have HX3 : Hid (bytesL G 1 = x3) := hx3.symm
  have HX4 : Hid (zerosL 7 = x4) := hx4.symm
  clear hx1 hx2 hx3 hx4 hX hG h4
  go_enter Try.func11, Try.ntmps11
  go_wp2_with fail
  refine (isport_yes A _ hA).mono ?_
  rintro e u1 ⟨rfl, rfl⟩
  go_wp2_with fail
  refine (isport_yes B _ hB).mono ?_
  rintro e u2 ⟨rfl, rfl⟩
  go_wp2_with fail
  refine (pports A B _ hA hB).mono ?_
  rintro e u3 ⟨rfl, b3⟩
  rw [HX1.out]
  go_wp2_with fail
  refine (pnoughts 8 _ (by omega)).mono ?_
  rintro e u4 ⟨rfl, b4⟩
  rw [HX2.out]
  go_wp2_with fail
  refine (pnumber G 1 _ (by omega) (by omega) (by omega)).mono ?_
  rintro e u5 ⟨rfl, b5⟩
  rw [HX3.out]
  go_wp2_with fail
  refine (pnoughts 7 _ (by omega)).mono ?_
  rintro e u6 ⟨rfl, b6⟩
  rw [HX4.out]
  go_wp2_with fail
  go_returns
  refine ⟨?_, bel_trans (bel_trans (bel_trans b3 b4) b5) b6⟩
  rw [← FIN.out]
  rfl
set_option maxHeartbeats 1600000 in
theorem udp_bad (n m : Int) (b : List UInt8) (w : World) (hl : b.length ≤ 1152921504606846976) (h : ¬ (PortN n ∧ PortN m ∧ b.length ≤ 65527)) :
    Calls Try.prog 13 #[.int .i64 n, .int .i64 m, .string (bsL b)] w fun e w' => e = .returned (.tuple #[.string ⟨#[]⟩, .int .i64 1]) ∧ Below w.heap.size w w' := by
  by_cases h1 : PortN n
  rotate_left
  · have H : Hid (¬ PortN n) := h1
    clear h h1
    go_enter Try.func13, Try.ntmps13
    go_wp2_with fail
    refine (isport_no n _ H.out).mono ?_
    rintro e u1 ⟨rfl, rfl⟩
    go_wp2_with fail
    go_returns
    exact ⟨rfl, Below.refl _ _⟩
  obtain ⟨A, rfl⟩ : ∃ A : Nat, n = A := ⟨n.toNat, by have := h1.1; omega⟩
  have hA : A < 65536 := by have := h1.2; omega
  by_cases h2 : PortN m
  rotate_left
  · have H : Hid (¬ PortN m) := h2
    clear h h1 h2
    go_enter Try.func13, Try.ntmps13
    go_wp2_with fail
    refine (isport_yes A _ hA).mono ?_
    rintro e u1 ⟨rfl, rfl⟩
    go_wp2_with fail
    refine (isport_no m _ H.out).mono ?_
    rintro e u2 ⟨rfl, rfl⟩
    go_wp2_with fail
    go_returns
    exact ⟨rfl, Below.refl _ _⟩
  obtain ⟨B, rfl⟩ : ∃ B : Nat, m = B := ⟨m.toNat, by have := h2.1; omega⟩
  have hB : B < 65536 := by have := h2.2; omega
  have h3 : 65527 < b.length := by
    apply Nat.lt_of_not_le
    intro x
    exact h ⟨h1, h2, x⟩
  clear h h1 h2
  go_enter Try.func13, Try.ntmps13
  go_wp2_with fail
  refine (isport_yes A _ hA).mono ?_
  rintro e u1 ⟨rfl, rfl⟩
  go_wp2_with fail
  refine (isport_yes B _ hB).mono ?_
  rintro e u2 ⟨rfl, rfl⟩
  go_wp2_with fail
  go_returns
  exact ⟨rfl, Below.refl _ _⟩
set_option maxHeartbeats 1600000 in
theorem udp_ok (A B : Nat) (b : List UInt8) (w : World) (hA : A < 65536) (hB : B < 65536) (hb : b.length ≤ 65527) :
    Calls Try.prog 13 #[.int .i64 (A : Int), .int .i64 (B : Int), .string (bsL b)] w fun e w' => e = .returned (.tuple #[.string (bsL (udpL A B b)), .int .i64 0]) ∧ Below w.heap.size w w' := by
  have c0 : ¬ 65527 < b.length := by omega
  obtain ⟨G, hG⟩ : ∃ G, G = 8 + b.length := ⟨_, rfl⟩
  have z1 : (8 : Int) + (b.length : Int) = (G : Int) := by omega
  have G1 : G < 65536 := by omega
  obtain ⟨x1, hx1⟩ : ∃ x, x = bytesL A 2 ++ bytesL B 2 := ⟨_, rfl⟩
  obtain ⟨x2, hx2⟩ : ∃ x, x = bytesL G 2 := ⟨_, rfl⟩
  obtain ⟨x3, hx3⟩ : ∃ x, x = zerosL 2 := ⟨_, rfl⟩
  have l1 : x1.length = 4 := by rw [hx1, List.length_append, bytesL_len, bytesL_len]
  have l2 : x2.length = 2 := by rw [hx2, bytesL_len]
  have l3 : x3.length = 2 := by rw [hx3, zerosL_len]
  have FIN : Hid (x1 ++ (x2 ++ (x3 ++ b)) = udpL A B b) := by
    show _ = _
    unfold udpL
    rw [hx1, hx2, hx3, hG]
    simp only [List.append_assoc]
  have HX1 : Hid (bytesL A 2 ++ bytesL B 2 = x1) := hx1.symm
  have HX2 : Hid (bytesL G 2 = x2) := hx2.symm
  have HX3 : Hid (zerosL 2 = x3) := hx3.symm
  clear hx1 hx2 hx3 hG
  go_enter Try.func13, Try.ntmps13
  go_wp2_with fail
  refine (isport_yes A _ hA).mono ?_
  rintro e u1 ⟨rfl, rfl⟩
  go_wp2_with fail
  refine (isport_yes B _ hB).mono ?_
  rintro e u2 ⟨rfl, rfl⟩
  go_wp2_with fail
  refine (pports A B _ hA hB).mono ?_
  rintro e u3 ⟨rfl, b3⟩
  rw [HX1.out]
  go_wp2_with fail
  refine (pnumber G 2 _ (by omega) (by omega) (by omega)).mono ?_
  rintro e u4 ⟨rfl, b4⟩
  rw [HX2.out]
  go_wp2_with fail
  refine (pnoughts 2 _ (by omega)).mono ?_
  rintro e u5 ⟨rfl, b5⟩
  rw [HX3.out]
  go_wp2_with fail
  go_returns
  refine ⟨?_, bel_trans (bel_trans b3 b4) b5⟩
  rw [← FIN.out]
  rfl
theorem pwake_s : bsL (udpL 53 1000 [120]) = ⟨#[0, 53, 3, 232, 0, 9, 0, 0, 120]⟩ := by decide +kernel
theorem pwake_b : srcP 17 (udpL 53 1000 [120]) = 53 ∧ dstP 17 (udpL 53 1000 [120]) = 1000 ∧ bodyP 17 (udpL 53 1000 [120]) = [120] ∧ errP 17 (udpL 53 1000 [120]) = 0 := by
  have h := udp_back (A := 53) (B := 1000) [120] [] (by omega) (by omega) (by decide)
  rw [List.append_nil] at h
  exact h
set_option maxHeartbeats 1600000 in
theorem awake_any (w : World) : Calls Try.prog 8 #[] w fun e w' => e = .returned (.bool true) ∧ Below w.heap.size w w' := by
  go_enter Try.func8, Try.ntmps8
  go_wp2_with fail
  refine (udp_ok 53 1000 [120] _ (by omega) (by omega) (by decide)).mono ?_
  rintro e u1 ⟨rfl, b1⟩
  obtain ⟨q, hq⟩ : ∃ q, q = udpL 53 1000 [120] := ⟨_, rfl⟩
  have lq : q.length = 9 := by rw [hq, udpL_len]; rfl
  have HB : Hid (srcP 17 q = 53 ∧ dstP 17 q = 1000 ∧ bodyP 17 q = [120] ∧ errP 17 q = 0) := by show _ ∧ _; rw [hq]; exact pwake_b
  have HQ : Hid (bsL q = ⟨#[0, 53, 3, 232, 0, 9, 0, 0, 120]⟩) := by show _ = _; rw [hq]; exact pwake_s
  rw [← hq]
  clear hq
  go_wp2_with fail
  refine (port_take 17 q _ (by omega)).mono ?_
  rintro e u2 ⟨rfl, b2⟩
  rw [HB.out.1, HB.out.2.1, HB.out.2.2.1, HB.out.2.2.2, HQ.out, show bsL [120] = ⟨#[120]⟩ from rfl]
  go_wp2_with fail
  go_ret
  exact ⟨rfl, bel_trans b1 b2⟩
end Go.Proofs.Ytjecmkibddmheaa
