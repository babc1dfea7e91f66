/-
  Any right header with a body of at most 100 bytes: with one byte of the header turned, its bytes are not taken for what it was. No condition.
-/
import Derived.Test.YtmblgiidfknodaaRows
import Derived.Test.YtmblgiidfknodaaIp4Open
import Derived.Test.YtmblgiidfknodaaBytesKit
import Derived.WalkKit
import Derived.ProofKit
import Derived.OpenShut
import Derived.ShutString
import Derived.ChangeOld
import Derived.ChangeMaps5
import Derived.Below
import Derived.Carry
namespace Go.Proofs.Ytmblgiidfknodaa.ipfourTurned
open Oc Ip4 Go.Deep
open Go.ChangeShapes Go.WideShapes Go.ChangeAt Go.RowKit Go.ChangeMaps
set_option linter.unusedVariables false

theorem own : ownKnob Try.prog.godebug = none := by kernel_rfl

set_option maxHeartbeats 6400000 in
theorem walk (x : Value) (F : Hd) (b' : ByteArray) (at1 y : Int) (w : World) (hx : HdAt x F) (wb : b'.size ≤ maxLen) (wa : (Lit.int .i64 at1).wf = true) (wy : (Lit.int .u8 y).wf = true) :
    Calls Try.prog 6 #[x, .string b', .int .i64 at1, .int .u8 y] w fun e w' => e = .returned (.bool true) ∧ Below w.heap.size w w' := by
  obtain ⟨b, rfl⟩ : ∃ b, b' = bsL b := ⟨_, bsL_of b'⟩
  rw [bsL_size] at wb
  obtain ⟨y0, y1⟩ := bounds_u8 wy
  obtain ⟨a0, a1⟩ := bounds_i64 wa
  obtain ⟨Y, rfl⟩ : ∃ Y : Nat, y = Y := ⟨y.toNat, by omega⟩
  clear wy wa
  obtain ⟨t, i, f, o, h, p, s, d, q⟩ := F
  unfold HdAt at hx
  simp only at hx
  subst hx
  have B1 : Hid (Below w.heap.size w (w.alloc (.cells #[.int .i64 t, .int .i64 i, .int .i64 f, .int .i64 o, .int .i64 h, .int .i64 p, .string (bsL s), .string (bsL d), .string (bsL q)] 24))) := bel_alloc _ _
  have S1 : Hid (Blk (w.alloc (.cells #[.int .i64 t, .int .i64 i, .int .i64 f, .int .i64 o, .int .i64 h, .int .i64 p, .string (bsL s), .string (bsL d), .string (bsL q)] 24)) w.heap.size 24 #[.int .i64 t, .int .i64 i, .int .i64 f, .int .i64 o, .int .i64 h, .int .i64 p, .string (bsL s), .string (bsL d), .string (bsL q)]) := Blk.new _ _ _
  by_cases g1 : (100 : Int) < b.length
  · go_enter Try.func6, Try.ntmps6
    go_wp2_with fail
    refine (awake_any _).mono ?_
    rintro e u9 ⟨rfl, b9⟩
    go_wp2_with fail
    go_ret
    exact ⟨rfl, bel_trans B1.out b9⟩
  by_cases hR : RightP ⟨t, i, f, o, h, p, s, d, q⟩
  rotate_left
  · have HR : Hid (¬ RightP ⟨t, i, f, o, h, p, s, d, q⟩) := hR
    clear hR
    go_enter Try.func6, Try.ntmps6
    go_wp2_with fail
    refine (right_any _ t i f o h p s d q).mono ?_
    rintro e u1 ⟨B, rfl, hB, bb⟩
    have eB : B = false := by cases B with
      | false => rfl
      | true => exact absurd (hB.1 rfl) HR.out
    subst eB
    clear hB
    go_wp2_with fail
    refine (awake_any _).mono ?_
    rintro e u9 ⟨rfl, b9⟩
    go_wp2_with fail
    go_ret
    exact ⟨rfl, bel_trans (bel_trans B1.out bb) b9⟩
  obtain ⟨r1, r2, r3, r4, r5, r6, r7, r8, r9, r10⟩ := hR
  simp only at r1 r2 r3 r4 r5 r6 r7 r8 r9 r10
  obtain ⟨T, rfl⟩ : ∃ T : Nat, t = T := ⟨t.toNat, by omega⟩
  obtain ⟨I, rfl⟩ : ∃ I : Nat, i = I := ⟨i.toNat, by omega⟩
  obtain ⟨F, rfl⟩ : ∃ F : Nat, f = F := ⟨f.toNat, by omega⟩
  obtain ⟨O, rfl⟩ : ∃ O : Nat, o = O := ⟨o.toNat, by omega⟩
  obtain ⟨L, rfl⟩ : ∃ L : Nat, h = L := ⟨h.toNat, by omega⟩
  obtain ⟨P, rfl⟩ : ∃ P : Nat, p = P := ⟨p.toNat, by omega⟩
  have HR : Hid (RightP ⟨T, I, F, O, L, P, s, d, q⟩) := ⟨r1, r2, r3, r4, r5, r6, r7, r8, r9, r10⟩
  have q40 : q.length ≤ 40 := r9
  have HSD : Hid (s.length = 4 ∧ d.length = 4) := ⟨r7, r8⟩
  clear r1 r2 r3 r4 r5 r6 r7 r8 r9 r10
  by_cases hy : Y = 0
  · have qy : ((Y : Int) == 0) = true := by simp; omega
    clear hy
    go_enter Try.func6, Try.ntmps6
    go_wp2_with fail
    refine (right_any _ T I F O L P s d q).mono ?_
    rintro e u1 ⟨B, rfl, hB, bb⟩
    have eB : B = true := hB.2 HR.out
    subst eB
    clear hB
    go_wp2_with fail
    refine (awake_any _).mono ?_
    rintro e u9 ⟨rfl, b9⟩
    go_wp2_with fail
    go_ret
    exact ⟨rfl, bel_trans (bel_trans B1.out bb) b9⟩
  have qy : ((Y : Int) == 0) = false := by simp; omega
  have hb : 20 + q.length + b.length ≤ 65535 := by omega
  have HL : Hid ((headL T I F O L P s d q b.length ++ b).length = 20 + q.length + b.length) := by
    show List.length _ = _
    unfold headL
    rw [List.length_append, headS_len, HSD.out.1, HSD.out.2]
    omega
  have TU : Hid (∀ (k : Nat) (c : UInt8), k < 20 + q.length → c.toNat ≠ atL (headL T I F O L P s d q b.length ++ b) k → takeE ((headL T I F O L P s d q b.length ++ b).set k c) ≠ 0 ∨ ∃ q', hdOf ((headL T I F O L P s d q b.length ++ b).set k c) = ⟨T, I, F, O, L, P, s, d, q'⟩ ∧ q'.length ≠ q.length) := fun k c hk hc => turned HR.out b (by omega) hk hc
  have PUT : Hid (∀ w : World, Calls Try.prog 11 #[.agg #[.int .i64 (T : Int), .int .i64 (I : Int), .int .i64 (F : Int), .int .i64 (O : Int), .int .i64 (L : Int), .int .i64 (P : Int), .string (bsL s), .string (bsL d), .string (bsL q)], .string (bsL b)] w (Wrote w (headL T I F O L P s d q b.length ++ b) 0)) := fun w => pput_ok w T I F O L P s d q b HR.out hb
  generalize headL T I F O L P s d q b.length ++ b = Zl at HL TU PUT
  have zl : Zl.length = 20 + q.length + b.length := HL.out
  have zb : Zl.length ≤ 1000 := by omega
  have n20 : ¬ (Zl.length : Int) < 20 := by omega
  have HY : Hid (Y ≠ 0 ∧ Y ≤ 255) := ⟨hy, by omega⟩
  have HZ : Hid (Zl.length = 20 + q.length + b.length) := zl
  by_cases hk0 : at1 < 0
  · clear hy hb zl
    go_enter Try.func6, Try.ntmps6
    go_wp2_with fail
    refine (right_any _ T I F O L P s d q).mono ?_
    rintro e u1 ⟨B, rfl, hB, bb⟩
    have eB : B = true := hB.2 HR.out
    subst eB
    clear hB
    have B2 : Hid (Below w.heap.size w u1) := bel_trans B1.out bb
    have S2 : Hid (Blk u1 w.heap.size 24 #[.int .i64 (T : Int), .int .i64 (I : Int), .int .i64 (F : Int), .int .i64 (O : Int), .int .i64 (L : Int), .int .i64 (P : Int), .string (bsL s), .string (bsL d), .string (bsL q)]) := S1.out.since bb
    clear bb
    have x0 : u1.cell? ⟨w.heap.size, 0, none⟩ = some (.int .i64 (T : Int)) := S2.out.cell 0
    have x1 : u1.cell? ⟨w.heap.size, 1, none⟩ = some (.int .i64 (I : Int)) := S2.out.cell 1
    have x2 : u1.cell? ⟨w.heap.size, 2, none⟩ = some (.int .i64 (F : Int)) := S2.out.cell 2
    have x3 : u1.cell? ⟨w.heap.size, 3, none⟩ = some (.int .i64 (O : Int)) := S2.out.cell 3
    have x4 : u1.cell? ⟨w.heap.size, 4, none⟩ = some (.int .i64 (L : Int)) := S2.out.cell 4
    have x5 : u1.cell? ⟨w.heap.size, 5, none⟩ = some (.int .i64 (P : Int)) := S2.out.cell 5
    have x6 : u1.cell? ⟨w.heap.size, 6, none⟩ = some (.string (bsL s)) := S2.out.cell 6
    have x7 : u1.cell? ⟨w.heap.size, 7, none⟩ = some (.string (bsL d)) := S2.out.cell 7
    have x8 : u1.cell? ⟨w.heap.size, 8, none⟩ = some (.string (bsL q)) := S2.out.cell 8
    go_wp2_with fail
    refine (PUT.out _).mono ?_
    rintro e u2 ⟨rfl, bb⟩
    have B3 : Hid (Below w.heap.size w u2) := bel_trans B2.out bb
    have S3 : Hid (Blk u2 w.heap.size 24 #[.int .i64 (T : Int), .int .i64 (I : Int), .int .i64 (F : Int), .int .i64 (O : Int), .int .i64 (L : Int), .int .i64 (P : Int), .string (bsL s), .string (bsL d), .string (bsL q)]) := S2.out.since bb
    clear bb x0 x1 x2 x3 x4 x5 x6 x7 x8
    have x0 : u2.cell? ⟨w.heap.size, 0, none⟩ = some (.int .i64 (T : Int)) := S3.out.cell 0
    have x1 : u2.cell? ⟨w.heap.size, 1, none⟩ = some (.int .i64 (I : Int)) := S3.out.cell 1
    have x2 : u2.cell? ⟨w.heap.size, 2, none⟩ = some (.int .i64 (F : Int)) := S3.out.cell 2
    have x3 : u2.cell? ⟨w.heap.size, 3, none⟩ = some (.int .i64 (O : Int)) := S3.out.cell 3
    have x4 : u2.cell? ⟨w.heap.size, 4, none⟩ = some (.int .i64 (L : Int)) := S3.out.cell 4
    have x5 : u2.cell? ⟨w.heap.size, 5, none⟩ = some (.int .i64 (P : Int)) := S3.out.cell 5
    have x6 : u2.cell? ⟨w.heap.size, 6, none⟩ = some (.string (bsL s)) := S3.out.cell 6
    have x7 : u2.cell? ⟨w.heap.size, 7, none⟩ = some (.string (bsL d)) := S3.out.cell 7
    have x8 : u2.cell? ⟨w.heap.size, 8, none⟩ = some (.string (bsL q)) := S3.out.cell 8
    go_wp2_with fail
    refine (awake_any _).mono ?_
    rintro e u9 ⟨rfl, b9⟩
    go_wp2_with fail
    go_ret
    exact ⟨rfl, bel_trans B3.out b9⟩
  by_cases hk1 : (20 : Int) + (q.length : Int) ≤ at1
  · clear hy hb zl
    go_enter Try.func6, Try.ntmps6
    go_wp2_with fail
    refine (right_any _ T I F O L P s d q).mono ?_
    rintro e u1 ⟨B, rfl, hB, bb⟩
    have eB : B = true := hB.2 HR.out
    subst eB
    clear hB
    have B2 : Hid (Below w.heap.size w u1) := bel_trans B1.out bb
    have S2 : Hid (Blk u1 w.heap.size 24 #[.int .i64 (T : Int), .int .i64 (I : Int), .int .i64 (F : Int), .int .i64 (O : Int), .int .i64 (L : Int), .int .i64 (P : Int), .string (bsL s), .string (bsL d), .string (bsL q)]) := S1.out.since bb
    clear bb
    have x0 : u1.cell? ⟨w.heap.size, 0, none⟩ = some (.int .i64 (T : Int)) := S2.out.cell 0
    have x1 : u1.cell? ⟨w.heap.size, 1, none⟩ = some (.int .i64 (I : Int)) := S2.out.cell 1
    have x2 : u1.cell? ⟨w.heap.size, 2, none⟩ = some (.int .i64 (F : Int)) := S2.out.cell 2
    have x3 : u1.cell? ⟨w.heap.size, 3, none⟩ = some (.int .i64 (O : Int)) := S2.out.cell 3
    have x4 : u1.cell? ⟨w.heap.size, 4, none⟩ = some (.int .i64 (L : Int)) := S2.out.cell 4
    have x5 : u1.cell? ⟨w.heap.size, 5, none⟩ = some (.int .i64 (P : Int)) := S2.out.cell 5
    have x6 : u1.cell? ⟨w.heap.size, 6, none⟩ = some (.string (bsL s)) := S2.out.cell 6
    have x7 : u1.cell? ⟨w.heap.size, 7, none⟩ = some (.string (bsL d)) := S2.out.cell 7
    have x8 : u1.cell? ⟨w.heap.size, 8, none⟩ = some (.string (bsL q)) := S2.out.cell 8
    go_wp2_with fail
    refine (PUT.out _).mono ?_
    rintro e u2 ⟨rfl, bb⟩
    have B3 : Hid (Below w.heap.size w u2) := bel_trans B2.out bb
    have S3 : Hid (Blk u2 w.heap.size 24 #[.int .i64 (T : Int), .int .i64 (I : Int), .int .i64 (F : Int), .int .i64 (O : Int), .int .i64 (L : Int), .int .i64 (P : Int), .string (bsL s), .string (bsL d), .string (bsL q)]) := S2.out.since bb
    clear bb x0 x1 x2 x3 x4 x5 x6 x7 x8
    have x0 : u2.cell? ⟨w.heap.size, 0, none⟩ = some (.int .i64 (T : Int)) := S3.out.cell 0
    have x1 : u2.cell? ⟨w.heap.size, 1, none⟩ = some (.int .i64 (I : Int)) := S3.out.cell 1
    have x2 : u2.cell? ⟨w.heap.size, 2, none⟩ = some (.int .i64 (F : Int)) := S3.out.cell 2
    have x3 : u2.cell? ⟨w.heap.size, 3, none⟩ = some (.int .i64 (O : Int)) := S3.out.cell 3
    have x4 : u2.cell? ⟨w.heap.size, 4, none⟩ = some (.int .i64 (L : Int)) := S3.out.cell 4
    have x5 : u2.cell? ⟨w.heap.size, 5, none⟩ = some (.int .i64 (P : Int)) := S3.out.cell 5
    have x6 : u2.cell? ⟨w.heap.size, 6, none⟩ = some (.string (bsL s)) := S3.out.cell 6
    have x7 : u2.cell? ⟨w.heap.size, 7, none⟩ = some (.string (bsL d)) := S3.out.cell 7
    have x8 : u2.cell? ⟨w.heap.size, 8, none⟩ = some (.string (bsL q)) := S3.out.cell 8
    go_wp2_with fail
    refine (awake_any _).mono ?_
    rintro e u9 ⟨rfl, b9⟩
    go_wp2_with fail
    go_ret
    exact ⟨rfl, bel_trans B3.out b9⟩
  obtain ⟨k, rfl⟩ : ∃ k : Nat, at1 = k := ⟨at1.toNat, by omega⟩
  have k1 : ¬ (20 : Int) + (q.length : Int) ≤ (k : Int) := hk1
  have k2 : ¬ (Zl.length : Int) ≤ (k : Int) := by omega
  have k3 : (k : Int) < (Zl.length : Int) := by omega
  have hk : k < Zl.length := by omega
  have kq : k < 20 + q.length := by omega
  have X8 := u8_xor_nat (atL Zl k) Y (atL_lt Zl k) (by omega)
  have xl : atL Zl k ^^^ Y < 256 := Nat.xor_lt_two_pow (n := 8) (atL_lt Zl k) (by omega)
  have xn : atL Zl k ^^^ Y ≠ atL Zl k := fun e => by
    have e2 : atL Zl k ^^^ (atL Zl k ^^^ Y) = atL Zl k ^^^ atL Zl k := by rw [e]
    rw [← Nat.xor_assoc, Nat.xor_self, Nat.zero_xor] at e2
    exact hy e2
  have CB : Hid ((Ip4.B (atL Zl k ^^^ Y)).toNat = atL Zl k ^^^ Y) := B_lt xl
  have TK : Hid (takeE (Zl.set k (Ip4.B (atL Zl k ^^^ Y))) ≠ 0 ∨ ∃ q', hdOf (Zl.set k (Ip4.B (atL Zl k ^^^ Y))) = ⟨T, I, F, O, L, P, s, d, q'⟩ ∧ q'.length ≠ q.length) := TU.out k _ kq (by rw [CB.out]; exact xn)
  have sl : (Zl.set k (Ip4.B (atL Zl k ^^^ Y))).length ≤ 1152921504606846976 := by rw [List.length_set]; omega
  clear hk0 hk1 hy hb zl TU xn HL
  go_enter Try.func6, Try.ntmps6
  go_wp2_with fail
  refine (right_any _ T I F O L P s d q).mono ?_
  rintro e u1 ⟨B, rfl, hB, bb⟩
  have eB : B = true := hB.2 HR.out
  subst eB
  clear hB
  have B2 : Hid (Below w.heap.size w u1) := bel_trans B1.out bb
  have S2 : Hid (Blk u1 w.heap.size 24 #[.int .i64 (T : Int), .int .i64 (I : Int), .int .i64 (F : Int), .int .i64 (O : Int), .int .i64 (L : Int), .int .i64 (P : Int), .string (bsL s), .string (bsL d), .string (bsL q)]) := S1.out.since bb
  clear bb
  have x0 : u1.cell? ⟨w.heap.size, 0, none⟩ = some (.int .i64 (T : Int)) := S2.out.cell 0
  have x1 : u1.cell? ⟨w.heap.size, 1, none⟩ = some (.int .i64 (I : Int)) := S2.out.cell 1
  have x2 : u1.cell? ⟨w.heap.size, 2, none⟩ = some (.int .i64 (F : Int)) := S2.out.cell 2
  have x3 : u1.cell? ⟨w.heap.size, 3, none⟩ = some (.int .i64 (O : Int)) := S2.out.cell 3
  have x4 : u1.cell? ⟨w.heap.size, 4, none⟩ = some (.int .i64 (L : Int)) := S2.out.cell 4
  have x5 : u1.cell? ⟨w.heap.size, 5, none⟩ = some (.int .i64 (P : Int)) := S2.out.cell 5
  have x6 : u1.cell? ⟨w.heap.size, 6, none⟩ = some (.string (bsL s)) := S2.out.cell 6
  have x7 : u1.cell? ⟨w.heap.size, 7, none⟩ = some (.string (bsL d)) := S2.out.cell 7
  have x8 : u1.cell? ⟨w.heap.size, 8, none⟩ = some (.string (bsL q)) := S2.out.cell 8
  go_wp2_with fail
  refine (PUT.out _).mono ?_
  rintro e u2 ⟨rfl, bb⟩
  have B3 : Hid (Below w.heap.size w u2) := bel_trans B2.out bb
  have S3 : Hid (Blk u2 w.heap.size 24 #[.int .i64 (T : Int), .int .i64 (I : Int), .int .i64 (F : Int), .int .i64 (O : Int), .int .i64 (L : Int), .int .i64 (P : Int), .string (bsL s), .string (bsL d), .string (bsL q)]) := S2.out.since bb
  clear bb x0 x1 x2 x3 x4 x5 x6 x7 x8
  have x0 : u2.cell? ⟨w.heap.size, 0, none⟩ = some (.int .i64 (T : Int)) := S3.out.cell 0
  have x1 : u2.cell? ⟨w.heap.size, 1, none⟩ = some (.int .i64 (I : Int)) := S3.out.cell 1
  have x2 : u2.cell? ⟨w.heap.size, 2, none⟩ = some (.int .i64 (F : Int)) := S3.out.cell 2
  have x3 : u2.cell? ⟨w.heap.size, 3, none⟩ = some (.int .i64 (O : Int)) := S3.out.cell 3
  have x4 : u2.cell? ⟨w.heap.size, 4, none⟩ = some (.int .i64 (L : Int)) := S3.out.cell 4
  have x5 : u2.cell? ⟨w.heap.size, 5, none⟩ = some (.int .i64 (P : Int)) := S3.out.cell 5
  have x6 : u2.cell? ⟨w.heap.size, 6, none⟩ = some (.string (bsL s)) := S3.out.cell 6
  have x7 : u2.cell? ⟨w.heap.size, 7, none⟩ = some (.string (bsL d)) := S3.out.cell 7
  have x8 : u2.cell? ⟨w.heap.size, 8, none⟩ = some (.string (bsL q)) := S3.out.cell 8
  obtain ⟨W, g, cap, hW⟩ := str_bytes u2 Zl
  have cv := hW.run
  have cg : W.cell? ⟨g, k, none⟩ = some (.int .u8 (atL Zl k : Int)) := by rw [hW.cell k hk, atL_get]
  have fg := hW.frozen k hk
  have bk := bytes_back hW k hk (Ip4.B (atL Zl k ^^^ Y))
  rw [CB.out] at bk
  have cp : (Zl.length : Int) ≤ cap := by have := hW.cap; omega
  have B4 : Hid (Below w.heap.size w (W.setCell ⟨g, k, none⟩ (.int .u8 ((atL Zl k ^^^ Y : Nat) : Int)))) := (bel_trans B3.out hW.since).setCell (by show w.heap.size ≤ g; have := hW.new; have := B3.out.size; omega) _
  have S4 : Hid (Blk (W.setCell ⟨g, k, none⟩ (.int .u8 ((atL Zl k ^^^ Y : Nat) : Int))) w.heap.size 24 #[.int .i64 (T : Int), .int .i64 (I : Int), .int .i64 (F : Int), .int .i64 (O : Int), .int .i64 (L : Int), .int .i64 (P : Int), .string (bsL s), .string (bsL d), .string (bsL q)]) := (S3.out.since hW.since).other (by show w.heap.size ≠ g; have := hW.new; have := S3.out.lt; omega) _
  have HW : Hid (Bytes u2 W g cap Zl) := hW
  clear hW
  generalize hc : atL Zl k ^^^ Y = cc at X8 xl CB TK sl bk B4 S4
  clear hc
  go_wp2_with fail
  refine (ptake_any _ (Zl.set k (Ip4.B cc)) sl).mono ?_
  rintro e u4 ⟨t4, i4, f4, o4, h4, p4, s4, d4, q4, b4, c4, rfl, hq, bb⟩
  have B5 : Hid (Below w.heap.size w u4) := bel_trans B4.out bb
  have S5 : Hid (Blk u4 w.heap.size 24 #[.int .i64 (T : Int), .int .i64 (I : Int), .int .i64 (F : Int), .int .i64 (O : Int), .int .i64 (L : Int), .int .i64 (P : Int), .string (bsL s), .string (bsL d), .string (bsL q)]) := S4.out.since bb
  clear bb cv cg fg bk x0 x1 x2 x3 x4 x5 x6 x7 x8
  have x0 : u4.cell? ⟨w.heap.size, 0, none⟩ = some (.int .i64 (T : Int)) := S5.out.cell 0
  have x1 : u4.cell? ⟨w.heap.size, 1, none⟩ = some (.int .i64 (I : Int)) := S5.out.cell 1
  have x2 : u4.cell? ⟨w.heap.size, 2, none⟩ = some (.int .i64 (F : Int)) := S5.out.cell 2
  have x3 : u4.cell? ⟨w.heap.size, 3, none⟩ = some (.int .i64 (O : Int)) := S5.out.cell 3
  have x4 : u4.cell? ⟨w.heap.size, 4, none⟩ = some (.int .i64 (L : Int)) := S5.out.cell 4
  have x5 : u4.cell? ⟨w.heap.size, 5, none⟩ = some (.int .i64 (P : Int)) := S5.out.cell 5
  have x6 : u4.cell? ⟨w.heap.size, 6, none⟩ = some (.string (bsL s)) := S5.out.cell 6
  have x7 : u4.cell? ⟨w.heap.size, 7, none⟩ = some (.string (bsL d)) := S5.out.cell 7
  have x8 : u4.cell? ⟨w.heap.size, 8, none⟩ = some (.string (bsL q)) := S5.out.cell 8
  have pl : w.heap.size < u4.heap.size := S5.out.lt
  have B6 : Hid (Below w.heap.size w (u4.alloc (.cells #[.int .i64 t4, .int .i64 i4, .int .i64 f4, .int .i64 o4, .int .i64 h4, .int .i64 p4, .string (bsL s4), .string (bsL d4), .string (bsL q4)] 24))) := B5.out.alloc B5.out.size _
  by_cases h0 : c4 = 0
  · have TQ := TK.out.resolve_left (by rw [hq.2.2]; exact fun h => h h0)
    obtain ⟨q', e1, e2⟩ := TQ
    obtain ⟨rfl, rfl, rfl, rfl, rfl, rfl, rfl, rfl, rfl⟩ := Hd.mk.inj (hq.1.symm.trans e1)
    subst h0
    have qn : ((bsL q4).toList == (bsL q).toList) = false := by
      simp only [beq_eq_false_iff_ne, ne_eq]
      intro e
      rw [ByteArray.toList_eq, ByteArray.toList_eq] at e
      have e3 := congrArg List.length e
      simp [bsL] at e3
      exact e2 e3
    clear e1 e2 hq TK
    go_wp2_with fail
    refine (awake_any _).mono ?_
    rintro e u9 ⟨rfl, b9⟩
    go_wp2_with fail
    go_ret
    exact ⟨rfl, bel_trans B6.out b9⟩
  have q0 : ((c4 : Int) == 0) = false := by simp; omega
  clear h0 hq TK
  go_wp2_with fail
  refine (awake_any _).mono ?_
  rintro e u9 ⟨rfl, b9⟩
  go_wp2_with fail
  go_ret
  exact ⟨rfl, bel_trans B6.out b9⟩

/-! ### The row -/
theorem laidOut : laidOutB Try.prog = true := by kernel_rfl
set_option maxRecDepth 100000 in
theorem lifted (os : Os) (started : os.Started) (H : Type) (enc : TypeId × Value → H) :
    ReturnsInHanded {} Try.checked os 6 .any (Rows.ipfourTurnedSpec.pre6 enc Try.prog Try.f6 Rows.ipfourTurnedRow.domain false) (Rows.ipfourTurnedSpec.post enc Try.prog Try.f6 false true false false) := by
  refine returnsInHanded_of_change (C := Try.checked) own started (by kernel_rfl) Try.func6
    (ChangeSpec.witness6 (enc := enc) (C := Try.checked) false ⟨#[], #[.agg #[.int .i64 0, .int .i64 0, .int .i64 0, .int .i64 0, .int .i64 0, .int .i64 0, .string ⟨#[]⟩, .string ⟨#[]⟩, .string ⟨#[]⟩], .string ⟨#[]⟩, .int .i64 0, .int .u8 0], []⟩ 8 (by kernel_rfl) (by kernel_rfl) (by kernel_rfl) (by kernel_rfl)) ?_
  intro W base args ds gs before hval0 hW hcnd _
  have hval : ∀ (j : Nat) t v, Try.f6.params[j]? = some t → args[j]? = some v → Value.okWide Try.prog W .any base t v := hval0
  have hW' := hW
  obtain ⟨p, q, hA0, hV, rfl, hfz, hnd⟩ := hW
  have hA : DataW.TrodAll enc Try.prog W 0 (fun _ => true) true Try.f6.params.toList args.toList ds p := hA0
  rw [Try.params6] at hA hval
  obtain ⟨v0, vs0, d0, ds0, p0, q0, hargs, rfl, rfl, h0, r0⟩ := trodAll_cons hA
  obtain ⟨v1, vs1, d1, ds1, p1, q1, rfl, rfl, rfl, h1, r1⟩ := trodAll_cons r0
  obtain ⟨v2, vs2, d2, ds2, p2, q2, rfl, rfl, rfl, h2, r2⟩ := trodAll_cons r1
  obtain ⟨v3, vs3, d3, ds3, p3, q3, rfl, rfl, rfl, h3, r3⟩ := trodAll_cons r2
  obtain ⟨rfl, rfl, rfl⟩ := trodAll_nil r3
  obtain rfl : args = #[v0, v1, v2, v3] := by cases args; simp_all
  obtain ⟨rfl, rfl⟩ := trodVars_none hV
  have k0 := h0
  have lt0 : ∀ x ∈ p0, x.block < W.heap.size := by obtain ⟨m, hm⟩ := k0; exact DataW.trod_lt m _ _ _ hm
  obtain ⟨F0, w0⟩ := open_hdr (hval 0 24 v0 rfl rfl) h0
  obtain ⟨a1, rfl, rfl, rfl, w1⟩ := open_string Try.underlying9 (hval 1 9 v1 rfl rfl) h1
  obtain ⟨a2, rfl, rfl, rfl, w2⟩ := open_int Try.underlying3 (hval 2 3 v2 rfl rfl) h2
  obtain ⟨a3, rfl, rfl, rfl, w3⟩ := open_int Try.underlying5 (hval 3 5 v3 rfl rfl) h3
  clear hA0 hval0
  refine (walk v0 F0 a1 a2 a3 W w0 w1 w2 w3).mono fun e W' ⟨he, bel⟩ => ?_
  subst he
  exact ⟨_, rfl, _, _, _, [], _, [], hW', trodAll_mk1 (shut_bool Try.underlying4 _), (trodAll_cons_mk (Below.trod laidOut (by kernel_rfl) (of_decide_eq_true (by kernel_rfl)) k0 bel lt0) (trodAll_cons_mk (shut_string Try.underlying9 w1) (trodAll_cons_mk (shut_int Try.underlying3 w2) (trodAll_cons_mk (shut_int Try.underlying5 w3) trodAll_mk0)))), rfl, bel.frame _, fun h => by cases h⟩

theorem over : Rows.ipfourTurnedRow.holds Try.pinned (OpenSpec.ofChange Rows.ipfourTurnedSpec) :=
  OpenClaim.holds_of_wide 6 Try.f6 rfl rfl rfl rfl rfl rfl rfl ⟨rfl, rfl, rfl, rfl, rfl⟩ rfl rfl rfl rfl rfl (by kernel_rfl) Try.func6 (by kernel_rfl)
    (of_decide_eq_true (by kernel_rfl)) (by unfold Func.isWrapper; first | (rw [if_pos (by decide +kernel)]; kernel_rfl) | (rw [if_neg (by decide +kernel)]; exact ⟨rfl, rfl⟩))
    (fun os started H enc _ => lifted os started H enc)

theorem proved : Rows.IpfourTurnedSaid := over
end Go.Proofs.Ytmblgiidfknodaa.ipfourTurned
namespace Go.Proofs.Ytmblgiidfknodaa
theorem ipfourTurned_holds : Rows.IpfourTurnedSaid := ipfourTurned.proved
#print axioms ipfourTurned_holds
end Go.Proofs.Ytmblgiidfknodaa
