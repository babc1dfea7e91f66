/-
  Any header, of at most 4096 bytes of Options and 100 of addresses, with a body of at most 4096 bytes, is written as the document says, or refused, and taken back, whatever stands behind (at most 4096 bytes). No condition.
-/
import Derived.Test.YtmblgiidfknodaaRows
import Derived.Test.YtmblgiidfknodaaIp4Open
import Derived.Test.YtmblgiidfknodaaIp4RPut2
import Derived.WalkKit
import Derived.ProofKit
import Derived.OpenShut
import Derived.ShutString
import Derived.ChangeOld
import Derived.ChangeMaps5
import Derived.Below
import Derived.Carry
namespace Go.Proofs.Ytmblgiidfknodaa.ipfourPuts
open Oc Ip4 Go.Deep
open Go.ChangeShapes Go.WideShapes Go.ChangeAt Go.RowKit Go.ChangeMaps
set_option linter.unusedVariables false

theorem own : ownKnob Try.prog.godebug = none := by kernel_rfl

set_option maxHeartbeats 6400000 in
theorem walk (x : Value) (F : Hd) (b' m' : ByteArray) (w : World) (hx : HdAt x F) (wb : b'.size ≤ maxLen) (wm : m'.size ≤ maxLen) :
    Calls Try.prog 4 #[x, .string b', .string m'] w fun e w' => e = .returned (.bool true) ∧ Below w.heap.size w w' := by
  obtain ⟨b, rfl⟩ : ∃ b, b' = bsL b := ⟨_, bsL_of b'⟩
  obtain ⟨m, rfl⟩ : ∃ m, m' = bsL m := ⟨_, bsL_of m'⟩
  rw [bsL_size] at wb wm
  obtain ⟨t, i, f, o, h, p, s, d, q⟩ := F
  unfold HdAt at hx
  simp only at hx
  subst hx
  have B1 : Hid (Below w.heap.size w (w.alloc (.cells #[.int .i64 t, .int .i64 i, .int .i64 f, .int .i64 o, .int .i64 h, .int .i64 p, .string (bsL s), .string (bsL d), .string (bsL q)] 24))) := bel_alloc _ _
  have S1 : Hid (Blk (w.alloc (.cells #[.int .i64 t, .int .i64 i, .int .i64 f, .int .i64 o, .int .i64 h, .int .i64 p, .string (bsL s), .string (bsL d), .string (bsL q)] 24)) w.heap.size 24 #[.int .i64 t, .int .i64 i, .int .i64 f, .int .i64 o, .int .i64 h, .int .i64 p, .string (bsL s), .string (bsL d), .string (bsL q)]) := Blk.new _ _ _
  by_cases g1 : (4096 : Int) < b.length
  · go_enter Try.func4, Try.ntmps4
    go_wp2_with fail
    refine (awake_any _).mono ?_
    rintro e u9 ⟨rfl, b9⟩
    go_wp2_with fail
    go_ret
    exact ⟨rfl, bel_trans B1.out b9⟩
  by_cases g2 : (4096 : Int) < m.length
  · go_enter Try.func4, Try.ntmps4
    go_wp2_with fail
    refine (awake_any _).mono ?_
    rintro e u9 ⟨rfl, b9⟩
    go_wp2_with fail
    go_ret
    exact ⟨rfl, bel_trans B1.out b9⟩
  by_cases g3 : (4096 : Int) < q.length
  · go_enter Try.func4, Try.ntmps4
    go_wp2_with fail
    refine (awake_any _).mono ?_
    rintro e u9 ⟨rfl, b9⟩
    go_wp2_with fail
    go_ret
    exact ⟨rfl, bel_trans B1.out b9⟩
  by_cases g4 : (100 : Int) < wrap64 ((s.length : Int) + (d.length : Int))
  · go_enter Try.func4, Try.ntmps4
    go_wp2_with fail
    refine (awake_any _).mono ?_
    rintro e u9 ⟨rfl, b9⟩
    go_wp2_with fail
    go_ret
    exact ⟨rfl, bel_trans B1.out b9⟩
  by_cases hR : RightP ⟨t, i, f, o, h, p, s, d, q⟩
  rotate_left
  · have HR : Hid (¬ RightP ⟨t, i, f, o, h, p, s, d, q⟩) := hR
    clear hR
    go_enter Try.func4, Try.ntmps4
    go_wp2_with fail
    refine (pput_no _ t i f o h p s d q b HR.out).mono ?_
    rintro e u1 ⟨rfl, bb⟩
    rw [show bsL [] = ⟨#[]⟩ from rfl]
    have B2 : Hid (Below w.heap.size w u1) := bel_trans B1.out bb
    have S2 : Hid (Blk u1 w.heap.size 24 #[.int .i64 t, .int .i64 i, .int .i64 f, .int .i64 o, .int .i64 h, .int .i64 p, .string (bsL s), .string (bsL d), .string (bsL q)]) := S1.out.since bb
    clear bb
    have x0 : u1.cell? ⟨w.heap.size, 0, none⟩ = some (.int .i64 t) := S2.out.cell 0
    have x1 : u1.cell? ⟨w.heap.size, 1, none⟩ = some (.int .i64 i) := S2.out.cell 1
    have x2 : u1.cell? ⟨w.heap.size, 2, none⟩ = some (.int .i64 f) := S2.out.cell 2
    have x3 : u1.cell? ⟨w.heap.size, 3, none⟩ = some (.int .i64 o) := S2.out.cell 3
    have x4 : u1.cell? ⟨w.heap.size, 4, none⟩ = some (.int .i64 h) := S2.out.cell 4
    have x5 : u1.cell? ⟨w.heap.size, 5, none⟩ = some (.int .i64 p) := S2.out.cell 5
    have x6 : u1.cell? ⟨w.heap.size, 6, none⟩ = some (.string (bsL s)) := S2.out.cell 6
    have x7 : u1.cell? ⟨w.heap.size, 7, none⟩ = some (.string (bsL d)) := S2.out.cell 7
    have x8 : u1.cell? ⟨w.heap.size, 8, none⟩ = some (.string (bsL q)) := S2.out.cell 8
    have pl : w.heap.size < u1.heap.size := S2.out.lt
    have B3 : Hid (Below w.heap.size w (u1.alloc (.cells #[.int .i64 t, .int .i64 i, .int .i64 f, .int .i64 o, .int .i64 h, .int .i64 p, .string (bsL s), .string (bsL d), .string (bsL q)] 28))) := B2.out.alloc B2.out.size _
    have S3 : Hid (Blk (u1.alloc (.cells #[.int .i64 t, .int .i64 i, .int .i64 f, .int .i64 o, .int .i64 h, .int .i64 p, .string (bsL s), .string (bsL d), .string (bsL q)] 28)) w.heap.size 24 #[.int .i64 t, .int .i64 i, .int .i64 f, .int .i64 o, .int .i64 h, .int .i64 p, .string (bsL s), .string (bsL d), .string (bsL q)]) := S2.out.alloc _
    have R3 : Hid (Blk (u1.alloc (.cells #[.int .i64 t, .int .i64 i, .int .i64 f, .int .i64 o, .int .i64 h, .int .i64 p, .string (bsL s), .string (bsL d), .string (bsL q)] 28)) u1.heap.size 28 #[.int .i64 t, .int .i64 i, .int .i64 f, .int .i64 o, .int .i64 h, .int .i64 p, .string (bsL s), .string (bsL d), .string (bsL q)]) := Blk.new _ _ _
    go_wp2_with fail
    refine (rright_any _ t i f o h p s d q).mono ?_
    rintro e u2 ⟨B, rfl, hB, bb⟩
    have eB : B = false := by cases B with
      | false => rfl
      | true => exact absurd (hB.1 rfl) HR.out
    subst eB
    clear hB
    have B4 : Hid (Below w.heap.size w u2) := bel_trans B3.out bb
    have S4 : Hid (Blk u2 w.heap.size 24 #[.int .i64 t, .int .i64 i, .int .i64 f, .int .i64 o, .int .i64 h, .int .i64 p, .string (bsL s), .string (bsL d), .string (bsL q)]) := S3.out.since bb
    have R4 : Hid (Blk u2 u1.heap.size 28 #[.int .i64 t, .int .i64 i, .int .i64 f, .int .i64 o, .int .i64 h, .int .i64 p, .string (bsL s), .string (bsL d), .string (bsL q)]) := R3.out.since bb
    clear bb x0 x1 x2 x3 x4 x5 x6 x7 x8
    have x0 : u2.cell? ⟨w.heap.size, 0, none⟩ = some (.int .i64 t) := S4.out.cell 0
    have x1 : u2.cell? ⟨w.heap.size, 1, none⟩ = some (.int .i64 i) := S4.out.cell 1
    have x2 : u2.cell? ⟨w.heap.size, 2, none⟩ = some (.int .i64 f) := S4.out.cell 2
    have x3 : u2.cell? ⟨w.heap.size, 3, none⟩ = some (.int .i64 o) := S4.out.cell 3
    have x4 : u2.cell? ⟨w.heap.size, 4, none⟩ = some (.int .i64 h) := S4.out.cell 4
    have x5 : u2.cell? ⟨w.heap.size, 5, none⟩ = some (.int .i64 p) := S4.out.cell 5
    have x6 : u2.cell? ⟨w.heap.size, 6, none⟩ = some (.string (bsL s)) := S4.out.cell 6
    have x7 : u2.cell? ⟨w.heap.size, 7, none⟩ = some (.string (bsL d)) := S4.out.cell 7
    have x8 : u2.cell? ⟨w.heap.size, 8, none⟩ = some (.string (bsL q)) := S4.out.cell 8
    go_wp2_with fail
    refine (right_any _ t i f o h p s d q).mono ?_
    rintro e u3 ⟨B, rfl, hB, bb⟩
    have eB : B = false := by cases B with
      | false => rfl
      | true => exact absurd (hB.1 rfl) HR.out
    subst eB
    clear hB
    have B5 : Hid (Below w.heap.size w u3) := bel_trans B4.out bb
    have S5 : Hid (Blk u3 w.heap.size 24 #[.int .i64 t, .int .i64 i, .int .i64 f, .int .i64 o, .int .i64 h, .int .i64 p, .string (bsL s), .string (bsL d), .string (bsL q)]) := S4.out.since bb
    have R5 : Hid (Blk u3 u1.heap.size 28 #[.int .i64 t, .int .i64 i, .int .i64 f, .int .i64 o, .int .i64 h, .int .i64 p, .string (bsL s), .string (bsL d), .string (bsL q)]) := R4.out.since bb
    clear bb x0 x1 x2 x3 x4 x5 x6 x7 x8
    go_wp2_with fail
    refine (awake_any _).mono ?_
    rintro e u9 ⟨rfl, b9⟩
    go_wp2_with fail
    go_ret
    exact ⟨rfl, bel_trans B5.out b9⟩
  obtain ⟨r1, r2, r3, r4, r5, r6, r7, r8, r9, r10⟩ := hR
  simp only at r1 r2 r3 r4 r5 r6 r7 r8 r9 r10
  obtain ⟨T, rfl⟩ : ∃ T : Nat, t = T := ⟨t.toNat, by omega⟩
  obtain ⟨I, rfl⟩ : ∃ I : Nat, i = I := ⟨i.toNat, by omega⟩
  obtain ⟨F, rfl⟩ : ∃ F : Nat, f = F := ⟨f.toNat, by omega⟩
  obtain ⟨O, rfl⟩ : ∃ O : Nat, o = O := ⟨o.toNat, by omega⟩
  obtain ⟨L, rfl⟩ : ∃ L : Nat, h = L := ⟨h.toNat, by omega⟩
  obtain ⟨P, rfl⟩ : ∃ P : Nat, p = P := ⟨p.toNat, by omega⟩
  have HR : Hid (RightP ⟨T, I, F, O, L, P, s, d, q⟩) := ⟨r1, r2, r3, r4, r5, r6, r7, r8, r9, r10⟩
  have q40 : q.length ≤ 40 := r9
  have HSD : Hid (s.length = 4 ∧ d.length = 4) := ⟨r7, r8⟩
  have hb : 20 + q.length + b.length ≤ 65535 := by omega
  clear r1 r2 r3 r4 r5 r6 r7 r8 r9 r10
  obtain ⟨bk1, bk2, bk3⟩ := back HR.out b m (by omega)
  have PUT : Hid (∀ w : World, Calls Try.prog 11 #[.agg #[.int .i64 (T : Int), .int .i64 (I : Int), .int .i64 (F : Int), .int .i64 (O : Int), .int .i64 (L : Int), .int .i64 (P : Int), .string (bsL s), .string (bsL d), .string (bsL q)], .string (bsL b)] w (Wrote w (headL T I F O L P s d q b.length ++ b) 0)) := fun w => pput_ok w T I F O L P s d q b HR.out hb
  have RPUT : Hid (∀ w : World, Calls Try.prog 14 #[.agg #[.int .i64 (T : Int), .int .i64 (I : Int), .int .i64 (F : Int), .int .i64 (O : Int), .int .i64 (L : Int), .int .i64 (P : Int), .string (bsL s), .string (bsL d), .string (bsL q)], .int .i64 (b.length : Int)] w fun e w' => e = .returned (.string (bsL (headL T I F O L P s d q b.length))) ∧ Below w.heap.size w w') := fun w => rpput_ok w T I F O L P b.length s d q HR.out hb
  have BK : Hid (takeE (headL T I F O L P s d q b.length ++ b ++ m) = 0 ∧ hdOf (headL T I F O L P s d q b.length ++ b ++ m) = ⟨T, I, F, O, L, P, s, d, q⟩ ∧ bodyOf (headL T I F O L P s d q b.length ++ b ++ m) = b) := ⟨(of_fine bk1).1, bk2, bk3⟩
  have hz : (headL T I F O L P s d q b.length).length = 20 + q.length := by
    unfold headL
    rw [headS_len, HSD.out.1, HSD.out.2]
    omega
  clear bk1 bk2 bk3
  generalize headL T I F O L P s d q b.length = Zh at PUT RPUT BK hz
  have zl : Zh.length ≤ 60 := by omega
  have tl : (Zh ++ b ++ m).length ≤ 1152921504606846976 := by simp only [List.length_append]; omega
  have ZE : Hid (Zh ++ (b ++ m) = Zh ++ b ++ m) := (List.append_assoc Zh b m).symm
  have c1 : ¬ 9223372036854775807 < Zh.length + b.length := by omega
  have c2 : ¬ 9223372036854775807 < Zh.length + (b.length + m.length) := by omega
  have c3 : ¬ 9223372036854775807 < Zh.length + b.length + m.length := by omega
  have HZ : Hid (Zh.length = 20 + q.length) := hz
  clear hz hb
  go_enter Try.func4, Try.ntmps4
  go_wp2_with fail
  refine (PUT.out _).mono ?_
  rintro e u1 ⟨rfl, bb⟩
  have B2 : Hid (Below w.heap.size w u1) := bel_trans B1.out bb
  have S2 : Hid (Blk u1 w.heap.size 24 #[.int .i64 (T : Int), .int .i64 (I : Int), .int .i64 (F : Int), .int .i64 (O : Int), .int .i64 (L : Int), .int .i64 (P : Int), .string (bsL s), .string (bsL d), .string (bsL q)]) := S1.out.since bb
  clear bb
  have x0 : u1.cell? ⟨w.heap.size, 0, none⟩ = some (.int .i64 (T : Int)) := S2.out.cell 0
  have x1 : u1.cell? ⟨w.heap.size, 1, none⟩ = some (.int .i64 (I : Int)) := S2.out.cell 1
  have x2 : u1.cell? ⟨w.heap.size, 2, none⟩ = some (.int .i64 (F : Int)) := S2.out.cell 2
  have x3 : u1.cell? ⟨w.heap.size, 3, none⟩ = some (.int .i64 (O : Int)) := S2.out.cell 3
  have x4 : u1.cell? ⟨w.heap.size, 4, none⟩ = some (.int .i64 (L : Int)) := S2.out.cell 4
  have x5 : u1.cell? ⟨w.heap.size, 5, none⟩ = some (.int .i64 (P : Int)) := S2.out.cell 5
  have x6 : u1.cell? ⟨w.heap.size, 6, none⟩ = some (.string (bsL s)) := S2.out.cell 6
  have x7 : u1.cell? ⟨w.heap.size, 7, none⟩ = some (.string (bsL d)) := S2.out.cell 7
  have x8 : u1.cell? ⟨w.heap.size, 8, none⟩ = some (.string (bsL q)) := S2.out.cell 8
  have pl : w.heap.size < u1.heap.size := S2.out.lt
  have B3 : Hid (Below w.heap.size w (u1.alloc (.cells #[.int .i64 (T : Int), .int .i64 (I : Int), .int .i64 (F : Int), .int .i64 (O : Int), .int .i64 (L : Int), .int .i64 (P : Int), .string (bsL s), .string (bsL d), .string (bsL q)] 28))) := B2.out.alloc B2.out.size _
  have S3 : Hid (Blk (u1.alloc (.cells #[.int .i64 (T : Int), .int .i64 (I : Int), .int .i64 (F : Int), .int .i64 (O : Int), .int .i64 (L : Int), .int .i64 (P : Int), .string (bsL s), .string (bsL d), .string (bsL q)] 28)) w.heap.size 24 #[.int .i64 (T : Int), .int .i64 (I : Int), .int .i64 (F : Int), .int .i64 (O : Int), .int .i64 (L : Int), .int .i64 (P : Int), .string (bsL s), .string (bsL d), .string (bsL q)]) := S2.out.alloc _
  have R3 : Hid (Blk (u1.alloc (.cells #[.int .i64 (T : Int), .int .i64 (I : Int), .int .i64 (F : Int), .int .i64 (O : Int), .int .i64 (L : Int), .int .i64 (P : Int), .string (bsL s), .string (bsL d), .string (bsL q)] 28)) u1.heap.size 28 #[.int .i64 (T : Int), .int .i64 (I : Int), .int .i64 (F : Int), .int .i64 (O : Int), .int .i64 (L : Int), .int .i64 (P : Int), .string (bsL s), .string (bsL d), .string (bsL q)]) := Blk.new _ _ _
  go_wp2_with fail
  refine (rright_any _ T I F O L P s d q).mono ?_
  rintro e u2 ⟨B, rfl, hB, bb⟩
  have eB : B = true := hB.2 HR.out
  subst eB
  clear hB
  have B4 : Hid (Below w.heap.size w u2) := bel_trans B3.out bb
  have S4 : Hid (Blk u2 w.heap.size 24 #[.int .i64 (T : Int), .int .i64 (I : Int), .int .i64 (F : Int), .int .i64 (O : Int), .int .i64 (L : Int), .int .i64 (P : Int), .string (bsL s), .string (bsL d), .string (bsL q)]) := S3.out.since bb
  have R4 : Hid (Blk u2 u1.heap.size 28 #[.int .i64 (T : Int), .int .i64 (I : Int), .int .i64 (F : Int), .int .i64 (O : Int), .int .i64 (L : Int), .int .i64 (P : Int), .string (bsL s), .string (bsL d), .string (bsL q)]) := R3.out.since bb
  clear bb x0 x1 x2 x3 x4 x5 x6 x7 x8
  have x0 : u2.cell? ⟨w.heap.size, 0, none⟩ = some (.int .i64 (T : Int)) := S4.out.cell 0
  have x1 : u2.cell? ⟨w.heap.size, 1, none⟩ = some (.int .i64 (I : Int)) := S4.out.cell 1
  have x2 : u2.cell? ⟨w.heap.size, 2, none⟩ = some (.int .i64 (F : Int)) := S4.out.cell 2
  have x3 : u2.cell? ⟨w.heap.size, 3, none⟩ = some (.int .i64 (O : Int)) := S4.out.cell 3
  have x4 : u2.cell? ⟨w.heap.size, 4, none⟩ = some (.int .i64 (L : Int)) := S4.out.cell 4
  have x5 : u2.cell? ⟨w.heap.size, 5, none⟩ = some (.int .i64 (P : Int)) := S4.out.cell 5
  have x6 : u2.cell? ⟨w.heap.size, 6, none⟩ = some (.string (bsL s)) := S4.out.cell 6
  have x7 : u2.cell? ⟨w.heap.size, 7, none⟩ = some (.string (bsL d)) := S4.out.cell 7
  have x8 : u2.cell? ⟨w.heap.size, 8, none⟩ = some (.string (bsL q)) := S4.out.cell 8
  go_wp2_with fail
  refine (right_any _ T I F O L P s d q).mono ?_
  rintro e u3 ⟨B, rfl, hB, bb⟩
  have eB : B = true := hB.2 HR.out
  subst eB
  clear hB
  have B5 : Hid (Below w.heap.size w u3) := bel_trans B4.out bb
  have S5 : Hid (Blk u3 w.heap.size 24 #[.int .i64 (T : Int), .int .i64 (I : Int), .int .i64 (F : Int), .int .i64 (O : Int), .int .i64 (L : Int), .int .i64 (P : Int), .string (bsL s), .string (bsL d), .string (bsL q)]) := S4.out.since bb
  have R5 : Hid (Blk u3 u1.heap.size 28 #[.int .i64 (T : Int), .int .i64 (I : Int), .int .i64 (F : Int), .int .i64 (O : Int), .int .i64 (L : Int), .int .i64 (P : Int), .string (bsL s), .string (bsL d), .string (bsL q)]) := R4.out.since bb
  clear bb x0 x1 x2 x3 x4 x5 x6 x7 x8
  go_wp2_with fail
  try rw [ZE.out]
  refine (ptake_any _ (Zh ++ b ++ m) tl).mono ?_
  rintro e u4 ⟨t4, i4, f4, o4, h4, p4, s4, d4, q4, b4, c4, rfl, hq, bb⟩
  obtain ⟨rfl, rfl, rfl, rfl, rfl, rfl, rfl, rfl, rfl⟩ := Hd.mk.inj (BK.out.2.1.symm.trans hq.1)
  obtain rfl := BK.out.2.2.symm.trans hq.2.1
  obtain rfl := hq.2.2.symm.trans BK.out.1
  have B6 : Hid (Below w.heap.size w (u4.alloc (.cells #[.int .i64 (T : Int), .int .i64 (I : Int), .int .i64 (F : Int), .int .i64 (O : Int), .int .i64 (L : Int), .int .i64 (P : Int), .string (bsL s), .string (bsL d), .string (bsL q)] 24))) := (bel_trans B5.out bb).alloc (bel_trans B5.out bb).size _
  have S6 : Hid (Blk (u4.alloc (.cells #[.int .i64 (T : Int), .int .i64 (I : Int), .int .i64 (F : Int), .int .i64 (O : Int), .int .i64 (L : Int), .int .i64 (P : Int), .string (bsL s), .string (bsL d), .string (bsL q)] 24)) w.heap.size 24 #[.int .i64 (T : Int), .int .i64 (I : Int), .int .i64 (F : Int), .int .i64 (O : Int), .int .i64 (L : Int), .int .i64 (P : Int), .string (bsL s), .string (bsL d), .string (bsL q)]) := (S5.out.since bb).alloc _
  have R6 : Hid (Blk (u4.alloc (.cells #[.int .i64 (T : Int), .int .i64 (I : Int), .int .i64 (F : Int), .int .i64 (O : Int), .int .i64 (L : Int), .int .i64 (P : Int), .string (bsL s), .string (bsL d), .string (bsL q)] 24)) u1.heap.size 28 #[.int .i64 (T : Int), .int .i64 (I : Int), .int .i64 (F : Int), .int .i64 (O : Int), .int .i64 (L : Int), .int .i64 (P : Int), .string (bsL s), .string (bsL d), .string (bsL q)]) := (R5.out.since bb).alloc _
  have G6 : Hid (Blk (u4.alloc (.cells #[.int .i64 (T : Int), .int .i64 (I : Int), .int .i64 (F : Int), .int .i64 (O : Int), .int .i64 (L : Int), .int .i64 (P : Int), .string (bsL s), .string (bsL d), .string (bsL q)] 24)) u4.heap.size 24 #[.int .i64 (T : Int), .int .i64 (I : Int), .int .i64 (F : Int), .int .i64 (O : Int), .int .i64 (L : Int), .int .i64 (P : Int), .string (bsL s), .string (bsL d), .string (bsL q)]) := Blk.new _ _ _
  have r6 := R5.out.since bb
  have pl : w.heap.size < u4.heap.size := (S5.out.since bb).lt
  have pl2 : u1.heap.size < u4.heap.size := (R5.out.since bb).lt
  have z0 : u4.cell? ⟨u1.heap.size, 0, none⟩ = some (.int .i64 (T : Int)) := r6.cell 0
  have z1 : u4.cell? ⟨u1.heap.size, 1, none⟩ = some (.int .i64 (I : Int)) := r6.cell 1
  have z2 : u4.cell? ⟨u1.heap.size, 2, none⟩ = some (.int .i64 (F : Int)) := r6.cell 2
  have z3 : u4.cell? ⟨u1.heap.size, 3, none⟩ = some (.int .i64 (O : Int)) := r6.cell 3
  have z4 : u4.cell? ⟨u1.heap.size, 4, none⟩ = some (.int .i64 (L : Int)) := r6.cell 4
  have z5 : u4.cell? ⟨u1.heap.size, 5, none⟩ = some (.int .i64 (P : Int)) := r6.cell 5
  have z6 : u4.cell? ⟨u1.heap.size, 6, none⟩ = some (.string (bsL s)) := r6.cell 6
  have z7 : u4.cell? ⟨u1.heap.size, 7, none⟩ = some (.string (bsL d)) := r6.cell 7
  have z8 : u4.cell? ⟨u1.heap.size, 8, none⟩ = some (.string (bsL q)) := r6.cell 8
  clear hq bb r6
  go_wp2_with fail
  refine (RPUT.out _).mono ?_
  rintro e u5 ⟨rfl, bb⟩
  have B7 : Hid (Below w.heap.size w u5) := bel_trans B6.out bb
  have S7 : Hid (Blk u5 w.heap.size 24 #[.int .i64 (T : Int), .int .i64 (I : Int), .int .i64 (F : Int), .int .i64 (O : Int), .int .i64 (L : Int), .int .i64 (P : Int), .string (bsL s), .string (bsL d), .string (bsL q)]) := S6.out.since bb
  have G7 : Hid (Blk u5 u4.heap.size 24 #[.int .i64 (T : Int), .int .i64 (I : Int), .int .i64 (F : Int), .int .i64 (O : Int), .int .i64 (L : Int), .int .i64 (P : Int), .string (bsL s), .string (bsL d), .string (bsL q)]) := G6.out.since bb
  clear bb z0 z1 z2 z3 z4 z5 z6 z7 z8
  have x0 : u5.cell? ⟨w.heap.size, 0, none⟩ = some (.int .i64 (T : Int)) := S7.out.cell 0
  have x1 : u5.cell? ⟨w.heap.size, 1, none⟩ = some (.int .i64 (I : Int)) := S7.out.cell 1
  have x2 : u5.cell? ⟨w.heap.size, 2, none⟩ = some (.int .i64 (F : Int)) := S7.out.cell 2
  have x3 : u5.cell? ⟨w.heap.size, 3, none⟩ = some (.int .i64 (O : Int)) := S7.out.cell 3
  have x4 : u5.cell? ⟨w.heap.size, 4, none⟩ = some (.int .i64 (L : Int)) := S7.out.cell 4
  have x5 : u5.cell? ⟨w.heap.size, 5, none⟩ = some (.int .i64 (P : Int)) := S7.out.cell 5
  have x6 : u5.cell? ⟨w.heap.size, 6, none⟩ = some (.string (bsL s)) := S7.out.cell 6
  have x7 : u5.cell? ⟨w.heap.size, 7, none⟩ = some (.string (bsL d)) := S7.out.cell 7
  have x8 : u5.cell? ⟨w.heap.size, 8, none⟩ = some (.string (bsL q)) := S7.out.cell 8
  have y0 : u5.cell? ⟨u4.heap.size, 0, none⟩ = some (.int .i64 (T : Int)) := G7.out.cell 0
  have y1 : u5.cell? ⟨u4.heap.size, 1, none⟩ = some (.int .i64 (I : Int)) := G7.out.cell 1
  have y2 : u5.cell? ⟨u4.heap.size, 2, none⟩ = some (.int .i64 (F : Int)) := G7.out.cell 2
  have y3 : u5.cell? ⟨u4.heap.size, 3, none⟩ = some (.int .i64 (O : Int)) := G7.out.cell 3
  have y4 : u5.cell? ⟨u4.heap.size, 4, none⟩ = some (.int .i64 (L : Int)) := G7.out.cell 4
  have y5 : u5.cell? ⟨u4.heap.size, 5, none⟩ = some (.int .i64 (P : Int)) := G7.out.cell 5
  have y6 : u5.cell? ⟨u4.heap.size, 6, none⟩ = some (.string (bsL s)) := G7.out.cell 6
  have y7 : u5.cell? ⟨u4.heap.size, 7, none⟩ = some (.string (bsL d)) := G7.out.cell 7
  have y8 : u5.cell? ⟨u4.heap.size, 8, none⟩ = some (.string (bsL q)) := G7.out.cell 8
  go_wp2_with fail
  refine (awake_any _).mono ?_
  rintro e u9 ⟨rfl, b9⟩
  go_wp2_with fail
  go_ret
  exact ⟨rfl, bel_trans B7.out b9⟩

/-! ### The row -/
theorem laidOut : laidOutB Try.prog = true := by kernel_rfl
set_option maxRecDepth 100000 in
theorem lifted (os : Os) (started : os.Started) (H : Type) (enc : TypeId × Value → H) :
    ReturnsInHanded {} Try.checked os 4 .any (Rows.ipfourPutsSpec.pre6 enc Try.prog Try.f4 Rows.ipfourPutsRow.domain false) (Rows.ipfourPutsSpec.post enc Try.prog Try.f4 false true false false) := by
  refine returnsInHanded_of_change (C := Try.checked) own started (by kernel_rfl) Try.func4
    (ChangeSpec.witness6 (enc := enc) (C := Try.checked) false ⟨#[], #[.agg #[.int .i64 0, .int .i64 0, .int .i64 0, .int .i64 0, .int .i64 0, .int .i64 0, .string ⟨#[]⟩, .string ⟨#[]⟩, .string ⟨#[]⟩], .string ⟨#[]⟩, .string ⟨#[]⟩], []⟩ 8 (by kernel_rfl) (by kernel_rfl) (by kernel_rfl) (by kernel_rfl)) ?_
  intro W base args ds gs before hval0 hW hcnd _
  have hval : ∀ (j : Nat) t v, Try.f4.params[j]? = some t → args[j]? = some v → Value.okWide Try.prog W .any base t v := hval0
  have hW' := hW
  obtain ⟨p, q, hA0, hV, rfl, hfz, hnd⟩ := hW
  have hA : DataW.TrodAll enc Try.prog W 0 (fun _ => true) true Try.f4.params.toList args.toList ds p := hA0
  rw [Try.params4] at hA hval
  obtain ⟨v0, vs0, d0, ds0, p0, q0, hargs, rfl, rfl, h0, r0⟩ := trodAll_cons hA
  obtain ⟨v1, vs1, d1, ds1, p1, q1, rfl, rfl, rfl, h1, r1⟩ := trodAll_cons r0
  obtain ⟨v2, vs2, d2, ds2, p2, q2, rfl, rfl, rfl, h2, r2⟩ := trodAll_cons r1
  obtain ⟨rfl, rfl, rfl⟩ := trodAll_nil r2
  obtain rfl : args = #[v0, v1, v2] := by cases args; simp_all
  obtain ⟨rfl, rfl⟩ := trodVars_none hV
  have k0 := h0
  have lt0 : ∀ x ∈ p0, x.block < W.heap.size := by obtain ⟨m, hm⟩ := k0; exact DataW.trod_lt m _ _ _ hm
  obtain ⟨F0, w0⟩ := open_hdr (hval 0 24 v0 rfl rfl) h0
  obtain ⟨a1, rfl, rfl, rfl, w1⟩ := open_string Try.underlying9 (hval 1 9 v1 rfl rfl) h1
  obtain ⟨a2, rfl, rfl, rfl, w2⟩ := open_string Try.underlying9 (hval 2 9 v2 rfl rfl) h2
  clear hA0 hval0
  refine (walk v0 F0 a1 a2 W w0 w1 w2).mono fun e W' ⟨he, bel⟩ => ?_
  subst he
  exact ⟨_, rfl, _, _, _, [], _, [], hW', trodAll_mk1 (shut_bool Try.underlying4 _), (trodAll_cons_mk (Below.trod laidOut (by kernel_rfl) (of_decide_eq_true (by kernel_rfl)) k0 bel lt0) (trodAll_cons_mk (shut_string Try.underlying9 w1) (trodAll_cons_mk (shut_string Try.underlying9 w2) trodAll_mk0))), rfl, bel.frame _, fun h => by cases h⟩

theorem over : Rows.ipfourPutsRow.holds Try.pinned (OpenSpec.ofChange Rows.ipfourPutsSpec) :=
  OpenClaim.holds_of_wide 4 Try.f4 rfl rfl rfl rfl rfl rfl rfl ⟨rfl, rfl, rfl, rfl, rfl⟩ rfl rfl rfl rfl rfl (by kernel_rfl) Try.func4 (by kernel_rfl)
    (of_decide_eq_true (by kernel_rfl)) (by unfold Func.isWrapper; first | (rw [if_pos (by decide +kernel)]; kernel_rfl) | (rw [if_neg (by decide +kernel)]; exact ⟨rfl, rfl⟩))
    (fun os started H enc _ => lifted os started H enc)

theorem proved : Rows.IpfourPutsSaid := over
end Go.Proofs.Ytmblgiidfknodaa.ipfourPuts
namespace Go.Proofs.Ytmblgiidfknodaa
theorem ipfourPuts_holds : Rows.IpfourPutsSaid := ipfourPuts.proved
#print axioms ipfourPuts_holds
end Go.Proofs.Ytmblgiidfknodaa
