
/-
  TCP and UDP of layer 8 (port): what they answer; the laws' fixed answer.
-/
import Derived.Test.YticopigpgaomjaaPortTake
import Derived.Test.YticopigpgaomjaaRepeat
namespace Go.Proofs.Yticopigpgaomjaa
open Go.RowKit Oc Pt Go.Deep
set_option linter.unusedVariables false

set_option maxHeartbeats 400000 in
theorem isport_yes (N : Nat) (w : World) (h : N < 65536) :
    Calls Try.prog 35 #[.int .i64 (N : Int)] w fun e w' => e = .returned (.bool true) ∧ w' = w := by
  have a : (N : Int) ≤ 65535 := by omega
  go_enter Try.func35, Try.ntmps35
  go_wp2_with fail
  go_ret
  exact ⟨rfl, rfl⟩
set_option maxHeartbeats 400000 in
theorem isport_no (n : Int) (w : World) (h : ¬ (0 ≤ n ∧ n < 65536)) :
    Calls Try.prog 35 #[.int .i64 n] w fun e w' => e = .returned (.bool false) ∧ w' = w := by
  by_cases h1 : 0 ≤ n
  · have h2 : ¬ n ≤ 65535 := by omega
    clear h
    go_enter Try.func35, Try.ntmps35
    go_wp2_with fail
    go_ret
    exact ⟨rfl, rfl⟩
  · clear h
    go_enter Try.func35, Try.ntmps35
    go_wp2_with fail
    go_ret
    exact ⟨rfl, rfl⟩
set_option maxHeartbeats 400000 in
theorem pnumber (N k : Nat) (w : World) (h1 : 1 ≤ k) (h2 : k ≤ 7) (h : N < 256 ^ k) :
    Calls Try.prog 37 #[.int .i64 (N : Int), .int .i64 (k : Int)] w fun e w' => e = .returned (.string (bsL (bytesL N k))) ∧ Below w.heap.size w w' := by
  have H : Hid (N < 256 ^ k) := h
  clear h
  go_enter Try.func37, Try.ntmps37
  go_wp2_with fail
  refine (put_ok N k _ h1 h2 H.out).mono ?_
  rintro e u1 ⟨rfl, b1⟩
  go_wp2_with fail
  go_ret
  exact ⟨rfl, b1⟩
set_option maxHeartbeats 400000 in
theorem pnoughts (n : Nat) (w : World) (h : n ≤ 140737488355328) :
    Calls Try.prog 38 #[.int .i64 (n : Int)] w fun e w' => e = .returned (.string (bsL (zerosL n))) ∧ Below w.heap.size w w' := by
  go_enter Try.func38, Try.ntmps38
  go_wp2_with fail
  refine (repeat_any n _ h).mono ?_
  rintro e u1 ⟨rfl, b1⟩
  go_wp2_with fail
  go_ret
  exact ⟨rfl, b1⟩
set_option maxHeartbeats 400000 in
theorem pports (A B : Nat) (w : World) (hA : A < 65536) (hB : B < 65536) :
    Calls Try.prog 36 #[.int .i64 (A : Int), .int .i64 (B : Int)] w fun e w' => e = .returned (.string (bsL (bytesL A 2 ++ bytesL B 2))) ∧ Below w.heap.size w w' := by
  have l1 := bytesL_len A 2
  have l2 := bytesL_len B 2
  go_enter Try.func36, Try.ntmps36
  go_wp2_with fail
  refine (pnumber A 2 _ (by omega) (by omega) (by omega)).mono ?_
  rintro e u1 ⟨rfl, b1⟩
  go_wp2_with fail
  refine (pnumber B 2 _ (by omega) (by omega) (by omega)).mono ?_
  rintro e u2 ⟨rfl, b2⟩
  go_wp2_with fail
  go_ret
  exact ⟨rfl, bel_trans b1 b2⟩

/-- A port's number. -/
def PortN (n : Int) : Prop := 0 ≤ n ∧ n < 65536
set_option maxHeartbeats 1600000 in
theorem udp_bad (n m : Int) (b : List UInt8) (w : World) (hl : b.length ≤ 1152921504606846976) (h : ¬ (PortN n ∧ PortN m ∧ b.length ≤ 65527)) :
    Calls Try.prog 20 #[.int .i64 n, .int .i64 m, .string (bsL b)] w fun e w' => e = .returned (.tuple #[.string ⟨#[]⟩, .int .i64 1]) ∧ Below w.heap.size w w' := by
  by_cases h1 : PortN n
  rotate_left
  · have H : Hid (¬ PortN n) := h1
    clear h h1
    go_enter Try.func20, Try.ntmps20
    go_wp2_with fail
    refine (isport_no n _ H.out).mono ?_
    rintro e u1 ⟨rfl, rfl⟩
    go_wp2_with fail
    go_returns
    exact ⟨rfl, Below.refl _ _⟩
  obtain ⟨A, rfl⟩ : ∃ A : Nat, n = A := ⟨n.toNat, by have := h1.1; omega⟩
  have hA : A < 65536 := by have := h1.2; omega
  by_cases h2 : PortN m
  rotate_left
  · have H : Hid (¬ PortN m) := h2
    clear h h1 h2
    go_enter Try.func20, Try.ntmps20
    go_wp2_with fail
    refine (isport_yes A _ hA).mono ?_
    rintro e u1 ⟨rfl, rfl⟩
    go_wp2_with fail
    refine (isport_no m _ H.out).mono ?_
    rintro e u2 ⟨rfl, rfl⟩
    go_wp2_with fail
    go_returns
    exact ⟨rfl, Below.refl _ _⟩
  obtain ⟨B, rfl⟩ : ∃ B : Nat, m = B := ⟨m.toNat, by have := h2.1; omega⟩
  have hB : B < 65536 := by have := h2.2; omega
  have h3 : 65527 < b.length := by
    apply Nat.lt_of_not_le
    intro x
    exact h ⟨h1, h2, x⟩
  clear h h1 h2
  go_enter Try.func20, Try.ntmps20
  go_wp2_with fail
  refine (isport_yes A _ hA).mono ?_
  rintro e u1 ⟨rfl, rfl⟩
  go_wp2_with fail
  refine (isport_yes B _ hB).mono ?_
  rintro e u2 ⟨rfl, rfl⟩
  go_wp2_with fail
  go_returns
  exact ⟨rfl, Below.refl _ _⟩
set_option maxHeartbeats 1600000 in
theorem udp_ok (A B : Nat) (b : List UInt8) (w : World) (hA : A < 65536) (hB : B < 65536) (hb : b.length ≤ 65527) :
    Calls Try.prog 20 #[.int .i64 (A : Int), .int .i64 (B : Int), .string (bsL b)] w fun e w' => e = .returned (.tuple #[.string (bsL (udpL A B b)), .int .i64 0]) ∧ Below w.heap.size w w' := by
  have c0 : ¬ 65527 < b.length := by omega
  obtain ⟨G, hG⟩ : ∃ G, G = 8 + b.length := ⟨_, rfl⟩
  have z1 : (8 : Int) + (b.length : Int) = (G : Int) := by omega
  have G1 : G < 65536 := by omega
  obtain ⟨x1, hx1⟩ : ∃ x, x = bytesL A 2 ++ bytesL B 2 := ⟨_, rfl⟩
  obtain ⟨x2, hx2⟩ : ∃ x, x = bytesL G 2 := ⟨_, rfl⟩
  obtain ⟨x3, hx3⟩ : ∃ x, x = zerosL 2 := ⟨_, rfl⟩
  have l1 : x1.length = 4 := by rw [hx1, List.length_append, bytesL_len, bytesL_len]
  have l2 : x2.length = 2 := by rw [hx2, bytesL_len]
  have l3 : x3.length = 2 := by rw [hx3, zerosL_len]
  have FIN : Hid (x1 ++ (x2 ++ (x3 ++ b)) = udpL A B b) := by
    show _ = _
    unfold udpL
    rw [hx1, hx2, hx3, hG]
    simp only [List.append_assoc]
  have HX1 : Hid (bytesL A 2 ++ bytesL B 2 = x1) := hx1.symm
  have HX2 : Hid (bytesL G 2 = x2) := hx2.symm
  have HX3 : Hid (zerosL 2 = x3) := hx3.symm
  clear hx1 hx2 hx3 hG
  go_enter Try.func20, Try.ntmps20
  go_wp2_with fail
  refine (isport_yes A _ hA).mono ?_
  rintro e u1 ⟨rfl, rfl⟩
  go_wp2_with fail
  refine (isport_yes B _ hB).mono ?_
  rintro e u2 ⟨rfl, rfl⟩
  go_wp2_with fail
  refine (pports A B _ hA hB).mono ?_
  rintro e u3 ⟨rfl, b3⟩
  rw [HX1.out]
  go_wp2_with fail
  refine (pnumber G 2 _ (by omega) (by omega) (by omega)).mono ?_
  rintro e u4 ⟨rfl, b4⟩
  rw [HX2.out]
  go_wp2_with fail
  refine (pnoughts 2 _ (by omega)).mono ?_
  rintro e u5 ⟨rfl, b5⟩
  rw [HX3.out]
  go_wp2_with fail
  go_returns
  refine ⟨?_, bel_trans (bel_trans b3 b4) b5⟩
  rw [← FIN.out]
  rfl
end Go.Proofs.Yticopigpgaomjaa
