/-
  Any frame of at most two tags, any header of at most 40 bytes of Options, any ports, any body and any bytes behind, at most 100 each: of the frame that the layers below write of them the flow is what was written. No condition.
-/
import Derived.Test.YticopigpgaomjaaRows
import Derived.Test.YticopigpgaomjaaFlowTake
import Derived.Test.YticopigpgaomjaaEthPut
import Derived.Test.YticopigpgaomjaaEthOpen
import Derived.Test.YticopigpgaomjaaIp4Put
import Derived.Test.YticopigpgaomjaaIp4Open
import Derived.Test.YticopigpgaomjaaPortPut
import Derived.WalkKit
import Derived.ProofKit
import Derived.OpenShut
import Derived.ShutString
import Derived.ChangeOld
import Derived.ChangeMaps5
import Derived.Below
import Derived.Carry
import Derived.Laws.StructEq
import Derived.Deep.Cut
import Derived.Deep.CutRange
namespace Go.Proofs.Yticopigpgaomjaa.flowWritten
open Oc Pt Fl Go.Deep
open Go.ChangeShapes Go.WideShapes Go.ChangeAt Go.RowKit Go.ChangeMaps
set_option linter.unusedVariables false

theorem own : ownKnob Try.prog.godebug = none := by kernel_rfl

/-- What a Put answers: bytes, and an error's number. -/
def Out (w : World) (P : List UInt8 → Int → Prop) (e : Ending) (w' : World) : Prop := ∃ (z : List UInt8) (c : Int), e = .returned (.tuple #[.string (bsL z), .int .i64 c]) ∧ P z c ∧ Below w.heap.size w w'
theorem udp_any (n m : Int) (b : List UInt8) (w : World) (hb : b.length ≤ 100) : Calls Try.prog 20 #[.int .i64 n, .int .i64 m, .string (bsL b)] w (Out w fun z c => z.length ≤ 108 ∧ (c ≠ 0 ∨ ∃ A B : Nat, n = A ∧ m = B ∧ A < 65536 ∧ B < 65536 ∧ z = udpL A B b)) := by
  by_cases h : PortN n ∧ PortN m ∧ b.length ≤ 65527
  · obtain ⟨⟨n0, n1⟩, ⟨m0, m1⟩, _⟩ := h
    obtain ⟨A, rfl⟩ : ∃ A : Nat, n = A := ⟨n.toNat, by omega⟩
    obtain ⟨B, rfl⟩ : ∃ B : Nat, m = B := ⟨m.toNat, by omega⟩
    refine (udp_ok A B b w (by omega) (by omega) (by omega)).mono ?_
    rintro e w' ⟨rfl, bb⟩
    exact ⟨udpL A B b, 0, rfl, ⟨by rw [udpL_len]; omega, Or.inr ⟨A, B, rfl, rfl, by omega, by omega, rfl⟩⟩, bb⟩
  · refine (udp_bad n m b w (by omega) h).mono ?_
    rintro e w' ⟨rfl, bb⟩
    exact ⟨[], 1, rfl, ⟨by simp, Or.inl (by decide)⟩, bb⟩
theorem four_any (t i f l : Int) (s d q b : List UInt8) (w : World) (hq : q.length ≤ 40) (hb : b.length ≤ 108) : Calls Try.prog 21 #[.agg #[.int .i64 t, .int .i64 i, .int .i64 f, .int .i64 0, .int .i64 l, .int .i64 17, .string (bsL s), .string (bsL d), .string (bsL q)], .string (bsL b)] w (Out w fun z c => z.length ≤ 168 ∧ (c ≠ 0 ∨ ∃ T I G L : Nat, Ip4.RightP ⟨T, I, G, (0 : Nat), L, (17 : Nat), s, d, q⟩ ∧ z = Ip4.headL T I G 0 L 17 s d q b.length ++ b)) := by
  by_cases h : Ip4.RightP ⟨t, i, f, 0, l, 17, s, d, q⟩
  · have hR := h
    obtain ⟨r1, r2, r3, r4, r5, r6, r7, r8, r9, r10⟩ := h
    simp only at r1 r2 r4 r5 r7 r8
    obtain ⟨T, rfl⟩ : ∃ A : Nat, t = A := ⟨t.toNat, by omega⟩
    obtain ⟨I, rfl⟩ : ∃ A : Nat, i = A := ⟨i.toNat, by omega⟩
    obtain ⟨G, rfl⟩ : ∃ A : Nat, f = A := ⟨f.toNat, by omega⟩
    obtain ⟨L, rfl⟩ : ∃ A : Nat, l = A := ⟨l.toNat, by omega⟩
    refine (L6.pput_ok w T I G 0 L 17 s d q b hR (by omega)).mono ?_
    rintro e w' ⟨rfl, bb⟩
    refine ⟨_, 0, rfl, ⟨?_, Or.inr ⟨T, I, G, L, hR, rfl⟩⟩, bb⟩
    rw [List.length_append]
    unfold Ip4.headL
    rw [Ip4.headS_len]
    omega
  · refine (L6.pput_no w t i f 0 l 17 s d q b h).mono ?_
    rintro e w' ⟨rfl, bb⟩
    exact ⟨[], 1, rfl, ⟨by simp, Or.inl (by decide)⟩, bb⟩
theorem eth_any (x : Value) (F : Et.Fr) (b : List UInt8) (w : World) (h : L5.FrameAt w x F) (hn : F.n ≤ 2) (hb : b.length ≤ 268) : Calls Try.prog 22 #[x, .string (bsL b)] w (Out w fun z c => c ≠ 0 ∨ (Et.RightP F ∧ z = Et.headL F ++ b)) := by
  by_cases hR : Et.RightP F
  · refine (L5.eput_ok w x F b h hR (by omega)).mono ?_
    rintro e w' ⟨rfl, bb⟩
    exact ⟨_, 0, rfl, Or.inr ⟨hR, rfl⟩, bb⟩
  · refine (L5.eput_no w x F b h (by omega) hR).mono ?_
    rintro e w' ⟨rfl, bb⟩
    exact ⟨[], 1, rfl, Or.inl (by decide), bb⟩
set_option maxRecDepth 8000 in
set_option maxHeartbeats 6400000 in
theorem walk (x : Value) (F1 : Et.Fr) (y : Value) (F2 : Ip4.Hd) (src dst : Int) (sb sm : ByteArray) (w : World) (hx : L5.FrameAt w x F1) (hy : L6.HdAt y F2) (wsrc : (Lit.int .i64 src).wf = true) (wdst : (Lit.int .i64 dst).wf = true) (wb : sb.size ≤ maxLen) (wm : sm.size ≤ maxLen) :
    Calls Try.prog 7 #[x, y, .int .i64 src, .int .i64 dst, .string sb, .string sm] w fun e w' => e = .returned (.bool true) ∧ Below w.heap.size w w' := by
  obtain ⟨body, rfl⟩ : ∃ l, sb = bsL l := ⟨_, bsL_of sb⟩
  obtain ⟨more, rfl⟩ : ∃ l, sm = bsL l := ⟨_, bsL_of sm⟩
  rw [bsL_size] at wb wm
  obtain ⟨fd, fs, n, FK, FV, fT⟩ := F1
  have HF := hx
  obtain ⟨v, rfl, ht⟩ := hx
  obtain ⟨Af, capf, rfl⟩ := ht.form
  have HTG : Hid (L5.TagsAt w (.slice Af n capf) n FK FV) := ht
  obtain ⟨t, i, f, o, l, p, s, d, q⟩ := F2
  have hy' : y = .agg #[.int .i64 t, .int .i64 i, .int .i64 f, .int .i64 o, .int .i64 l, .int .i64 p, .string (bsL s), .string (bsL d), .string (bsL q)] := hy
  subst hy'
  clear hy ht HF
  have BA : Hid (Below w.heap.size w ((w.alloc (.cells #[.string (bsL fd), .string (bsL fs), .slice Af n capf, .int .i64 fT] 40)).alloc (.cells #[.int .i64 t, .int .i64 i, .int .i64 f, .int .i64 o, .int .i64 l, .int .i64 p, .string (bsL s), .string (bsL d), .string (bsL q)] 42))) := bel_trans (bel_alloc _ _) (bel_alloc _ _)
  by_cases h1 : 100 < body.length
  · go_enter Try.func7, Try.ntmps7
    go_wp2_with fail
    refine (fl_awake _).mono ?_
    rintro e u9 ⟨rfl, b9⟩
    go_wp2_with fail
    go_ret
    exact ⟨rfl, bel_trans BA.out b9⟩
  by_cases h2 : 100 < more.length
  · go_enter Try.func7, Try.ntmps7
    go_wp2_with fail
    refine (fl_awake _).mono ?_
    rintro e u9 ⟨rfl, b9⟩
    go_wp2_with fail
    go_ret
    exact ⟨rfl, bel_trans BA.out b9⟩
  by_cases h3 : 40 < q.length
  · go_enter Try.func7, Try.ntmps7
    go_wp2_with fail
    refine (fl_awake _).mono ?_
    rintro e u9 ⟨rfl, b9⟩
    go_wp2_with fail
    go_ret
    exact ⟨rfl, bel_trans BA.out b9⟩
  by_cases h4 : 2 < n
  · go_enter Try.func7, Try.ntmps7
    go_wp2_with fail
    refine (fl_awake _).mono ?_
    rintro e u9 ⟨rfl, b9⟩
    go_wp2_with fail
    go_ret
    exact ⟨rfl, bel_trans BA.out b9⟩
  have B0 : Hid (Below w.heap.size w ((w.alloc (.cells #[.string (bsL fd), .string (bsL fs), .slice Af n capf, .int .i64 2048] 40)).alloc (.cells #[.int .i64 t, .int .i64 i, .int .i64 f, .int .i64 0, .int .i64 l, .int .i64 17, .string (bsL s), .string (bsL d), .string (bsL q)] 42))) := bel_trans (bel_alloc _ _) (bel_alloc _ _)
  have K0 : Hid (Blk ((w.alloc (.cells #[.string (bsL fd), .string (bsL fs), .slice Af n capf, .int .i64 2048] 40)).alloc (.cells #[.int .i64 t, .int .i64 i, .int .i64 f, .int .i64 0, .int .i64 l, .int .i64 17, .string (bsL s), .string (bsL d), .string (bsL q)] 42)) w.heap.size 40 #[.string (bsL fd), .string (bsL fs), .slice Af n capf, .int .i64 2048] ∧ Blk ((w.alloc (.cells #[.string (bsL fd), .string (bsL fs), .slice Af n capf, .int .i64 2048] 40)).alloc (.cells #[.int .i64 t, .int .i64 i, .int .i64 f, .int .i64 0, .int .i64 l, .int .i64 17, .string (bsL s), .string (bsL d), .string (bsL q)] 42)) (w.heap.size + 1) 42 #[.int .i64 t, .int .i64 i, .int .i64 f, .int .i64 0, .int .i64 l, .int .i64 17, .string (bsL s), .string (bsL d), .string (bsL q)]) := ⟨(Blk.new _ _ _).alloc _, by have e := Blk.new (w.alloc (.cells #[.string (bsL fd), .string (bsL fs), .slice Af n capf, .int .i64 2048] 40)) 42 #[.int .i64 t, .int .i64 i, .int .i64 f, .int .i64 0, .int .i64 l, .int .i64 17, .string (bsL s), .string (bsL d), .string (bsL q)]; simpa using e⟩
  have FA : Hid (∀ u, Below w.heap.size w u → L5.FrameAt u (.agg #[.string (bsL fd), .string (bsL fs), .slice Af n capf, .int .i64 2048]) ⟨fd, fs, n, FK, FV, 2048⟩) := fun u bu => ⟨_, rfl, HTG.out.keep (L5.keep_of_below bu)⟩
  go_enter Try.func7, Try.ntmps7
  go_wp2_with fail
  refine (udp_any src dst body _ (by omega)).mono ?_
  rintro e u1 ⟨z1, c1, rfl, hz1, b1⟩
  have HZ1 : Hid (_) := hz1
  have lz1 : z1.length ≤ 108 := hz1.1
  have B1 : Hid (Below w.heap.size w u1) := bel_trans B0.out b1
  have K1 : Hid (Blk u1 w.heap.size 40 #[.string (bsL fd), .string (bsL fs), .slice Af n capf, .int .i64 2048] ∧ Blk u1 (w.heap.size + 1) 42 #[.int .i64 t, .int .i64 i, .int .i64 f, .int .i64 0, .int .i64 l, .int .i64 17, .string (bsL s), .string (bsL d), .string (bsL q)]) := ⟨K0.out.1.since b1, K0.out.2.since b1⟩
  clear b1 hz1
  have m0 : u1.cell? ⟨w.heap.size, 0, none⟩ = some (.string (bsL fd)) := K1.out.1.cell 0
  have m1 : u1.cell? ⟨w.heap.size, 1, none⟩ = some (.string (bsL fs)) := K1.out.1.cell 1
  have m2 : u1.cell? ⟨w.heap.size, 2, none⟩ = some (.slice Af n capf) := K1.out.1.cell 2
  have m3 : u1.cell? ⟨w.heap.size, 3, none⟩ = some (.int .i64 2048) := K1.out.1.cell 3
  have n0 : u1.cell? ⟨w.heap.size + 1, 0, none⟩ = some (.int .i64 t) := K1.out.2.cell 0
  have n1 : u1.cell? ⟨w.heap.size + 1, 1, none⟩ = some (.int .i64 i) := K1.out.2.cell 1
  have n2 : u1.cell? ⟨w.heap.size + 1, 2, none⟩ = some (.int .i64 f) := K1.out.2.cell 2
  have n3 : u1.cell? ⟨w.heap.size + 1, 3, none⟩ = some (.int .i64 0) := K1.out.2.cell 3
  have n4 : u1.cell? ⟨w.heap.size + 1, 4, none⟩ = some (.int .i64 l) := K1.out.2.cell 4
  have n5 : u1.cell? ⟨w.heap.size + 1, 5, none⟩ = some (.int .i64 17) := K1.out.2.cell 5
  have n6 : u1.cell? ⟨w.heap.size + 1, 6, none⟩ = some (.string (bsL s)) := K1.out.2.cell 6
  have n7 : u1.cell? ⟨w.heap.size + 1, 7, none⟩ = some (.string (bsL d)) := K1.out.2.cell 7
  have n8 : u1.cell? ⟨w.heap.size + 1, 8, none⟩ = some (.string (bsL q)) := K1.out.2.cell 8
  go_wp2_with fail
  refine (four_any t i f l s d q z1 _ (by omega) lz1).mono ?_
  rintro e u2 ⟨z2, c2, rfl, hz2, b2⟩
  have HZ2 : Hid (_) := hz2
  have lz2 : z2.length ≤ 168 := hz2.1
  have B2 : Hid (Below w.heap.size w u2) := bel_trans B1.out b2
  have K2 : Hid (Blk u2 w.heap.size 40 #[.string (bsL fd), .string (bsL fs), .slice Af n capf, .int .i64 2048] ∧ Blk u2 (w.heap.size + 1) 42 #[.int .i64 t, .int .i64 i, .int .i64 f, .int .i64 0, .int .i64 l, .int .i64 17, .string (bsL s), .string (bsL d), .string (bsL q)]) := ⟨K1.out.1.since b2, K1.out.2.since b2⟩
  clear b2 hz2
  clear m0 m1 m2 m3 n0 n1 n2 n3 n4 n5 n6 n7 n8
  have m0 : u2.cell? ⟨w.heap.size, 0, none⟩ = some (.string (bsL fd)) := K2.out.1.cell 0
  have m1 : u2.cell? ⟨w.heap.size, 1, none⟩ = some (.string (bsL fs)) := K2.out.1.cell 1
  have m2 : u2.cell? ⟨w.heap.size, 2, none⟩ = some (.slice Af n capf) := K2.out.1.cell 2
  have m3 : u2.cell? ⟨w.heap.size, 3, none⟩ = some (.int .i64 2048) := K2.out.1.cell 3
  have n0 : u2.cell? ⟨w.heap.size + 1, 0, none⟩ = some (.int .i64 t) := K2.out.2.cell 0
  have n1 : u2.cell? ⟨w.heap.size + 1, 1, none⟩ = some (.int .i64 i) := K2.out.2.cell 1
  have n2 : u2.cell? ⟨w.heap.size + 1, 2, none⟩ = some (.int .i64 f) := K2.out.2.cell 2
  have n3 : u2.cell? ⟨w.heap.size + 1, 3, none⟩ = some (.int .i64 0) := K2.out.2.cell 3
  have n4 : u2.cell? ⟨w.heap.size + 1, 4, none⟩ = some (.int .i64 l) := K2.out.2.cell 4
  have n5 : u2.cell? ⟨w.heap.size + 1, 5, none⟩ = some (.int .i64 17) := K2.out.2.cell 5
  have n6 : u2.cell? ⟨w.heap.size + 1, 6, none⟩ = some (.string (bsL s)) := K2.out.2.cell 6
  have n7 : u2.cell? ⟨w.heap.size + 1, 7, none⟩ = some (.string (bsL d)) := K2.out.2.cell 7
  have n8 : u2.cell? ⟨w.heap.size + 1, 8, none⟩ = some (.string (bsL q)) := K2.out.2.cell 8
  have c22 : ¬ 9223372036854775807 < z2.length + more.length := by omega
  go_wp2_with fail
  refine (eth_any _ _ (z2 ++ more) _ (FA.out u2 B2.out) (by show n ≤ 2; omega) (by rw [List.length_append]; omega)).mono ?_
  rintro e u3 ⟨z3, c3, rfl, hz3, b3⟩
  have HZ3 : Hid (_) := hz3
  have B3 : Hid (Below w.heap.size w u3) := bel_trans B2.out b3
  have K3 : Hid (Blk u3 w.heap.size 40 #[.string (bsL fd), .string (bsL fs), .slice Af n capf, .int .i64 2048] ∧ Blk u3 (w.heap.size + 1) 42 #[.int .i64 t, .int .i64 i, .int .i64 f, .int .i64 0, .int .i64 l, .int .i64 17, .string (bsL s), .string (bsL d), .string (bsL q)]) := ⟨K2.out.1.since b3, K2.out.2.since b3⟩
  clear b3 hz3
  clear m0 m1 m2 m3 n0 n1 n2 n3 n4 n5 n6 n7 n8
  have m0 : u3.cell? ⟨w.heap.size, 0, none⟩ = some (.string (bsL fd)) := K3.out.1.cell 0
  have m1 : u3.cell? ⟨w.heap.size, 1, none⟩ = some (.string (bsL fs)) := K3.out.1.cell 1
  have m2 : u3.cell? ⟨w.heap.size, 2, none⟩ = some (.slice Af n capf) := K3.out.1.cell 2
  have m3 : u3.cell? ⟨w.heap.size, 3, none⟩ = some (.int .i64 2048) := K3.out.1.cell 3
  have n0 : u3.cell? ⟨w.heap.size + 1, 0, none⟩ = some (.int .i64 t) := K3.out.2.cell 0
  have n1 : u3.cell? ⟨w.heap.size + 1, 1, none⟩ = some (.int .i64 i) := K3.out.2.cell 1
  have n2 : u3.cell? ⟨w.heap.size + 1, 2, none⟩ = some (.int .i64 f) := K3.out.2.cell 2
  have n3 : u3.cell? ⟨w.heap.size + 1, 3, none⟩ = some (.int .i64 0) := K3.out.2.cell 3
  have n4 : u3.cell? ⟨w.heap.size + 1, 4, none⟩ = some (.int .i64 l) := K3.out.2.cell 4
  have n5 : u3.cell? ⟨w.heap.size + 1, 5, none⟩ = some (.int .i64 17) := K3.out.2.cell 5
  have n6 : u3.cell? ⟨w.heap.size + 1, 6, none⟩ = some (.string (bsL s)) := K3.out.2.cell 6
  have n7 : u3.cell? ⟨w.heap.size + 1, 7, none⟩ = some (.string (bsL d)) := K3.out.2.cell 7
  have n8 : u3.cell? ⟨w.heap.size + 1, 8, none⟩ = some (.string (bsL q)) := K3.out.2.cell 8
  by_cases e1 : c1 = 0
  rotate_left
  · have q1 : (c1 != 0) = true := by simpa using e1
    clear e1
    go_wp2_with fail
    refine (fl_awake _).mono ?_
    rintro e u9 ⟨rfl, b9⟩
    go_wp2_with fail
    go_ret
    exact ⟨rfl, bel_trans B3.out b9⟩
  by_cases e2 : c2 = 0
  rotate_left
  · have q1 : (c1 != 0) = false := by simpa using e1
    have q2 : (c2 != 0) = true := by simpa using e2
    clear e1 e2
    go_wp2_with fail
    refine (fl_awake _).mono ?_
    rintro e u9 ⟨rfl, b9⟩
    go_wp2_with fail
    go_ret
    exact ⟨rfl, bel_trans B3.out b9⟩
  by_cases e3 : c3 = 0
  rotate_left
  · have q1 : (c1 != 0) = false := by simpa using e1
    have q2 : (c2 != 0) = false := by simpa using e2
    have q3 : (c3 != 0) = true := by simpa using e3
    clear e1 e2 e3
    go_wp2_with fail
    refine (fl_awake _).mono ?_
    rintro e u9 ⟨rfl, b9⟩
    go_wp2_with fail
    go_ret
    exact ⟨rfl, bel_trans B3.out b9⟩
  subst e1 e2 e3
  obtain ⟨A, B, rfl, rfl, hA, hB, r1⟩ := HZ1.out.2.resolve_left (by decide)
  obtain ⟨T, I, G, L, hR, r2⟩ := HZ2.out.2.resolve_left (by decide)
  obtain ⟨hF, r3⟩ := HZ3.out.resolve_left (by decide)
  have ln : z3.length = 14 + 4 * n + (z2.length + more.length) := by
    rw [r3, List.length_append, L5.head_len hF, List.length_append]
  have WR : Hid (ansOf z3 = ⟨⟨aheadL ++ s, aheadL ++ d, 17, A, B⟩, 0⟩) := by
    have zl : z3.length ≤ 2048 := by omega
    have e := Fl.written (F := ⟨fd, fs, n, FK, FV, 2048⟩) hF rfl (m := more) hR r1 hA hB (by omega) (by omega) (by rw [← r2, ← r3]; exact zl)
    rw [← r2, ← r3] at e
    exact e
  have r7 : s.length = 4 := hR.2.2.2.2.2.2.1
  have r8 : d.length = 4 := hR.2.2.2.2.2.2.2.1
  have zl : Hid (z3.length ≤ 1152921504606846976) := by show _ ≤ _; omega
  obtain ⟨X1, hX1⟩ : ∃ X, X = aheadL ++ s := ⟨_, rfl⟩
  obtain ⟨X2, hX2⟩ : ∃ X, X = aheadL ++ d := ⟨_, rfl⟩
  have lX1 : X1.length = 16 := by rw [hX1, List.length_append, r7]; rfl
  have lX2 : X2.length = 16 := by rw [hX2, List.length_append, r8]; rfl
  have D1 := bsL_drop X1 12
  have D2 := bsL_drop X2 12
  rw [bsL_size, lX1, hX1, List.drop_left' (show aheadL.length = 12 from rfl), ← hX1] at D1
  rw [bsL_size, lX2, hX2, List.drop_left' (show aheadL.length = 12 from rfl), ← hX2] at D2
  rw [← hX1, ← hX2] at WR
  clear hX1 hX2 r1 r2 r3 hR hF ln HZ1 HZ2 HZ3 FA HTG
  go_wp2_with fail
  refine (fl_extract _ z3 zl.out).mono ?_
  rintro e u4 ⟨s1, d1, p1, a1, c1, E1, rfl, hE, b4⟩
  rw [WR.out] at hE
  obtain ⟨g0, rfl⟩ := Ans.mk.inj hE
  obtain ⟨rfl, rfl, rfl, rfl, rfl⟩ := Fw.mk.inj g0
  clear g0 hE
  have HX : Hid (Below w.heap.size w (u4.alloc (.cells #[.string (bsL X1), .string (bsL X2), .int .i64 17, .int .i64 (A : Int), .int .i64 (B : Int)] 24)) ∧ Blk (u4.alloc (.cells #[.string (bsL X1), .string (bsL X2), .int .i64 17, .int .i64 (A : Int), .int .i64 (B : Int)] 24)) (w.heap.size + 1) 42 #[.int .i64 t, .int .i64 i, .int .i64 f, .int .i64 0, .int .i64 l, .int .i64 17, .string (bsL s), .string (bsL d), .string (bsL q)] ∧ Blk (u4.alloc (.cells #[.string (bsL X1), .string (bsL X2), .int .i64 17, .int .i64 (A : Int), .int .i64 (B : Int)] 24)) u4.heap.size 24 #[.string (bsL X1), .string (bsL X2), .int .i64 17, .int .i64 (A : Int), .int .i64 (B : Int)]) := ⟨bel_trans (bel_trans B3.out b4) (bel_alloc _ _), (K3.out.2.since b4).alloc _, Blk.new _ _ _⟩
  clear b4
  clear m0 m1 m2 m3 n0 n1 n2 n3 n4 n5 n6 n7 n8
  go_upto_region 10 with fail
  generalize u4.alloc (.cells #[.string (bsL X1), .string (bsL X2), .int .i64 17, .int .i64 (A : Int), .int .i64 (B : Int)] 24) = X at HX ⊢
  generalize u4.heap.size = gx at HX ⊢
  have x6 : X.cell? ⟨w.heap.size + 1, 6, none⟩ = some (.string (bsL s)) := HX.out.2.1.cell 6
  have x7 : X.cell? ⟨w.heap.size + 1, 7, none⟩ = some (.string (bsL d)) := HX.out.2.1.cell 7
  have y0 : X.cell? ⟨gx, 0, none⟩ = some (.string (bsL X1)) := HX.out.2.2.cell 0
  have y1 : X.cell? ⟨gx, 1, none⟩ = some (.string (bsL X2)) := HX.out.2.2.cell 1
  have y2 : X.cell? ⟨gx, 2, none⟩ = some (.int .i64 17) := HX.out.2.2.cell 2
  have y3 : X.cell? ⟨gx, 3, none⟩ = some (.int .i64 (A : Int)) := HX.out.2.2.cell 3
  have y4 : X.cell? ⟨gx, 4, none⟩ = some (.int .i64 (B : Int)) := HX.out.2.2.cell 4
  go_region_held3 (fun w' => w'.cell? ⟨w.heap.size + 1, 6, none⟩ = some (.string (bsL s)) ∧ w'.cell? ⟨w.heap.size + 1, 7, none⟩ = some (.string (bsL d)) ∧ w'.cell? ⟨gx, 0, none⟩ = some (.string (bsL X1)) ∧ w'.cell? ⟨gx, 1, none⟩ = some (.string (bsL X2)) ∧ w'.cell? ⟨gx, 2, none⟩ = some (.int .i64 17) ∧ w'.cell? ⟨gx, 3, none⟩ = some (.int .i64 (A : Int)) ∧ w'.cell? ⟨gx, 4, none⟩ = some (.int .i64 (B : Int))) (first | go_keep | exact KQ1.out) (first
    | (go_simp; go_at_call 9; refine (fl_awake _).mono ?_; rintro e q1 ⟨rfl, cc1⟩; have KB1 : Hid (Blk q1 (w.heap.size + 1) 42 #[.int .i64 t, .int .i64 i, .int .i64 f, .int .i64 0, .int .i64 l, .int .i64 17, .string (bsL s), .string (bsL d), .string (bsL q)] ∧ Blk q1 gx 24 #[.string (bsL X1), .string (bsL X2), .int .i64 17, .int .i64 (A : Int), .int .i64 (B : Int)]) := ⟨HX.out.2.1.drew.since cc1, HX.out.2.2.drew.since cc1⟩; have BQ1 : Hid (Below w.heap.size w q1) := bel_trans HX.out.1 ⟨cc1.os, cc1.tape, cc1.output, cc1.size, cc1.block⟩; have KQ1 : Hid (q1.cell? ⟨w.heap.size + 1, 6, none⟩ = some (.string (bsL s)) ∧ q1.cell? ⟨w.heap.size + 1, 7, none⟩ = some (.string (bsL d)) ∧ q1.cell? ⟨gx, 0, none⟩ = some (.string (bsL X1)) ∧ q1.cell? ⟨gx, 1, none⟩ = some (.string (bsL X2)) ∧ q1.cell? ⟨gx, 2, none⟩ = some (.int .i64 17) ∧ q1.cell? ⟨gx, 3, none⟩ = some (.int .i64 (A : Int)) ∧ q1.cell? ⟨gx, 4, none⟩ = some (.int .i64 (B : Int))) := ⟨KB1.out.1.cell 6, KB1.out.1.cell 7, KB1.out.2.cell 0, KB1.out.2.cell 1, KB1.out.2.cell 2, KB1.out.2.cell 3, KB1.out.2.cell 4⟩; clear cc1))
  all_goals go_wp2_with fail
  all_goals go_ret
  all_goals exact ⟨rfl, BQ1.out⟩

/-! ### The row -/
theorem laidOut : laidOutB Try.prog = true := by kernel_rfl
set_option maxRecDepth 100000 in
theorem lifted (os : Os) (started : os.Started) (H : Type) (enc : TypeId × Value → H) :
    ReturnsInHanded {} Try.checked os 7 .any (Rows.flowWrittenSpec.pre6 enc Try.prog Try.f7 Rows.flowWrittenRow.domain false) (Rows.flowWrittenSpec.post enc Try.prog Try.f7 false true false false) := by
  refine returnsInHanded_of_change (C := Try.checked) own started (by kernel_rfl) Try.func7
    (ChangeSpec.witness6 (enc := enc) (C := Try.checked) false ⟨#[], #[.agg #[.string ⟨#[]⟩, .string ⟨#[]⟩, .slice none 0 0, .int .i64 0], .agg #[.int .i64 0, .int .i64 0, .int .i64 0, .int .i64 0, .int .i64 0, .int .i64 0, .string ⟨#[]⟩, .string ⟨#[]⟩, .string ⟨#[]⟩], .int .i64 0, .int .i64 0, .string ⟨#[]⟩, .string ⟨#[]⟩], []⟩ 8 (by kernel_rfl) (by kernel_rfl) (by kernel_rfl) (by kernel_rfl)) ?_
  intro W base args ds gs before hval0 hW hcnd _
  have hval : ∀ (j : Nat) t v, Try.f7.params[j]? = some t → args[j]? = some v → Value.okWide Try.prog W .any base t v := hval0
  have hW' := hW
  obtain ⟨p, q, hA0, hV, rfl, hfz, hnd⟩ := hW
  have hA : DataW.TrodAll enc Try.prog W 0 (fun _ => true) true Try.f7.params.toList args.toList ds p := hA0
  rw [Try.params7] at hA hval
  obtain ⟨v0, vs0, d0, ds0, p0, q0, hargs, rfl, rfl, h0, r0⟩ := trodAll_cons hA
  obtain ⟨v1, vs1, d1, ds1, p1, q1, rfl, rfl, rfl, h1, r1⟩ := trodAll_cons r0
  obtain ⟨v2, vs2, d2, ds2, p2, q2, rfl, rfl, rfl, h2, r2⟩ := trodAll_cons r1
  obtain ⟨v3, vs3, d3, ds3, p3, q3, rfl, rfl, rfl, h3, r3⟩ := trodAll_cons r2
  obtain ⟨v4, vs4, d4, ds4, p4, q4, rfl, rfl, rfl, h4, r4⟩ := trodAll_cons r3
  obtain ⟨v5, vs5, d5, ds5, p5, q5, rfl, rfl, rfl, h5, r5⟩ := trodAll_cons r4
  obtain ⟨rfl, rfl, rfl⟩ := trodAll_nil r5
  obtain rfl : args = #[v0, v1, v2, v3, v4, v5] := by cases args; simp_all
  obtain ⟨rfl, rfl⟩ := trodVars_none hV
  have k0 := h0
  have lt0 : ∀ x ∈ p0, x.block < W.heap.size := by obtain ⟨m, hm⟩ := k0; exact DataW.trod_lt m _ _ _ hm
  obtain ⟨F0, w0⟩ := L5.open_frame (hval 0 40 v0 rfl rfl) h0
  have k1 := h1
  have lt1 : ∀ x ∈ p1, x.block < W.heap.size := by obtain ⟨m, hm⟩ := k1; exact DataW.trod_lt m _ _ _ hm
  obtain ⟨F1, w1⟩ := L6.open_hdr (hval 1 42 v1 rfl rfl) h1
  obtain ⟨a2, rfl, rfl, rfl, w2⟩ := open_int Try.underlying3 (hval 2 3 v2 rfl rfl) h2
  obtain ⟨a3, rfl, rfl, rfl, w3⟩ := open_int Try.underlying3 (hval 3 3 v3 rfl rfl) h3
  obtain ⟨a4, rfl, rfl, rfl, w4⟩ := open_string Try.underlying9 (hval 4 9 v4 rfl rfl) h4
  obtain ⟨a5, rfl, rfl, rfl, w5⟩ := open_string Try.underlying9 (hval 5 9 v5 rfl rfl) h5
  clear hA0 hval0
  refine (walk v0 F0 v1 F1 a2 a3 a4 a5 W w0 w1 w2 w3 w4 w5).mono fun e W' ⟨he, bel⟩ => ?_
  subst he
  exact ⟨_, rfl, _, _, _, [], _, [], hW', trodAll_mk1 (shut_bool Try.underlying4 _), (trodAll_cons_mk (Below.trod laidOut (by kernel_rfl) (of_decide_eq_true (by kernel_rfl)) k0 bel lt0) (trodAll_cons_mk (Below.trod laidOut (by kernel_rfl) (of_decide_eq_true (by kernel_rfl)) k1 bel lt1) (trodAll_cons_mk (shut_int Try.underlying3 w2) (trodAll_cons_mk (shut_int Try.underlying3 w3) (trodAll_cons_mk (shut_string Try.underlying9 w4) (trodAll_cons_mk (shut_string Try.underlying9 w5) trodAll_mk0)))))), rfl, bel.frame _, fun h => by cases h⟩

theorem over : Rows.flowWrittenRow.holds Try.pinned (OpenSpec.ofChange Rows.flowWrittenSpec) :=
  OpenClaim.holds_of_wide 7 Try.f7 rfl rfl rfl rfl rfl rfl rfl ⟨rfl, rfl, rfl, rfl, rfl⟩ rfl rfl rfl rfl rfl (by kernel_rfl) Try.func7 (by kernel_rfl)
    (of_decide_eq_true (by kernel_rfl)) (by unfold Func.isWrapper; first | (rw [if_pos (by decide +kernel)]; kernel_rfl) | (rw [if_neg (by decide +kernel)]; exact ⟨rfl, rfl⟩))
    (fun os started H enc _ => lifted os started H enc)

theorem proved : Rows.FlowWrittenSaid := over
end Go.Proofs.Yticopigpgaomjaa.flowWritten
namespace Go.Proofs.Yticopigpgaomjaa
theorem flowWritten_holds : Rows.FlowWrittenSaid := flowWritten.proved
#print axioms flowWritten_holds
end Go.Proofs.Yticopigpgaomjaa
