/-
  For any bytes, at most 4096, and any behind them, at most 4096: what stands behind a packet's length turns nothing. No condition.
-/
import Derived.Test.YtmblgiidfknodaaRows
import Derived.Test.YtmblgiidfknodaaIp4Awake
import Derived.WalkKit
import Derived.ProofKit
import Derived.OpenShut
import Derived.ShutString
import Derived.ChangeOld
import Derived.ChangeMaps5
import Derived.Below
import Derived.Carry
namespace Go.Proofs.Ytmblgiidfknodaa.ipfourTrail
open Oc Ip4 Go.Deep
open Go.ChangeShapes Go.WideShapes Go.ChangeAt Go.RowKit Go.ChangeMaps
set_option linter.unusedVariables false

theorem own : ownKnob Try.prog.godebug = none := by kernel_rfl

set_option maxHeartbeats 3200000 in
theorem walk (s m' : ByteArray) (w : World) (ws : s.size ≤ maxLen) (wm : m'.size ≤ maxLen) :
    Calls Try.prog 7 #[.string s, .string m'] w fun e w' => e = .returned (.bool true) ∧ Below w.heap.size w w' := by
  obtain ⟨l, rfl⟩ : ∃ l, s = bsL l := ⟨_, bsL_of s⟩
  obtain ⟨m, rfl⟩ : ∃ m, m' = bsL m := ⟨_, bsL_of m'⟩
  rw [bsL_size] at ws wm
  by_cases h : 4096 < l.length
  · go_enter Try.func7, Try.ntmps7
    go_wp2_with fail
    refine (awake_any _).mono ?_
    rintro e u9 ⟨rfl, b9⟩
    go_wp2_with fail
    go_ret
    exact ⟨rfl, b9⟩
  by_cases h2 : 4096 < m.length
  · go_enter Try.func7, Try.ntmps7
    go_wp2_with fail
    refine (awake_any _).mono ?_
    rintro e u9 ⟨rfl, b9⟩
    go_wp2_with fail
    go_ret
    exact ⟨rfl, b9⟩
  have lm : (l ++ m).length ≤ 1152921504606846976 := by rw [List.length_append]; omega
  by_cases he : takeE l = 0
  rotate_left
  · have HE : Hid (takeE l ≠ 0) := he
    clear he
    go_enter Try.func7, Try.ntmps7
    go_wp2_with fail
    refine (ptake_any _ l (by omega)).mono ?_
    rintro e u1 ⟨t1, i1, f1, o1, h1, p1, s1, d1, q1, b1, c1, rfl, hq, bb⟩
    have HQ1 : Hid (hdOf (l) = ⟨t1, i1, f1, o1, h1, p1, s1, d1, q1⟩ ∧ bodyOf (l) = b1 ∧ takeE (l) = c1) := hq
    have BU1 : Hid (Below w.heap.size w u1) := bb
    clear hq bb
    obtain ⟨z1, z2⟩ := of_err (l := l) HE.out
    obtain ⟨rfl, rfl, rfl, rfl, rfl, rfl, rfl, rfl, rfl⟩ := Hd.mk.inj (HQ1.out.1.symm.trans z1)
    obtain rfl := HQ1.out.2.1.symm.trans z2
    have q1 : ((c1 : Int) != 0) = true := by have e := HQ1.out.2.2; have e2 := HE.out; rw [e] at e2; simp; omega
    clear z1 z2
    rw [show bsL [] = ⟨#[]⟩ from rfl]
    have BB1 : Hid (Below w.heap.size w (u1.alloc (.cells #[.int .i64 0, .int .i64 0, .int .i64 0, .int .i64 0, .int .i64 0, .int .i64 0, .string ⟨#[]⟩, .string ⟨#[]⟩, .string ⟨#[]⟩] 24))) := BU1.out.alloc BU1.out.size _
    have SB1 : Hid (Blk (u1.alloc (.cells #[.int .i64 0, .int .i64 0, .int .i64 0, .int .i64 0, .int .i64 0, .int .i64 0, .string ⟨#[]⟩, .string ⟨#[]⟩, .string ⟨#[]⟩] 24)) u1.heap.size 24 #[.int .i64 0, .int .i64 0, .int .i64 0, .int .i64 0, .int .i64 0, .int .i64 0, .string ⟨#[]⟩, .string ⟨#[]⟩, .string ⟨#[]⟩]) := Blk.new _ _ _
    go_wp2_with fail
    refine (ptake_any _ (l ++ m) lm).mono ?_
    rintro e u2 ⟨t2, i2, f2, o2, h2, p2, s2, d2, q2, b2, c2, rfl, hq, bb⟩
    have HQ2 : Hid (hdOf ((l ++ m)) = ⟨t2, i2, f2, o2, h2, p2, s2, d2, q2⟩ ∧ bodyOf ((l ++ m)) = b2 ∧ takeE ((l ++ m)) = c2) := hq
    have BU2 : Hid (Below w.heap.size w u2) := bel_trans BB1.out bb
    have SC1 : Hid (Blk u2 u1.heap.size 24 #[.int .i64 0, .int .i64 0, .int .i64 0, .int .i64 0, .int .i64 0, .int .i64 0, .string ⟨#[]⟩, .string ⟨#[]⟩, .string ⟨#[]⟩]) := SB1.out.since bb
    clear hq bb
    have pl : u1.heap.size < u2.heap.size := SC1.out.lt
    have x0 : u2.cell? ⟨u1.heap.size, 0, none⟩ = some (.int .i64 0) := SC1.out.cell 0
    have x1 : u2.cell? ⟨u1.heap.size, 1, none⟩ = some (.int .i64 0) := SC1.out.cell 1
    have x2 : u2.cell? ⟨u1.heap.size, 2, none⟩ = some (.int .i64 0) := SC1.out.cell 2
    have x3 : u2.cell? ⟨u1.heap.size, 3, none⟩ = some (.int .i64 0) := SC1.out.cell 3
    have x4 : u2.cell? ⟨u1.heap.size, 4, none⟩ = some (.int .i64 0) := SC1.out.cell 4
    have x5 : u2.cell? ⟨u1.heap.size, 5, none⟩ = some (.int .i64 0) := SC1.out.cell 5
    have x6 : u2.cell? ⟨u1.heap.size, 6, none⟩ = some (.string ⟨#[]⟩) := SC1.out.cell 6
    have x7 : u2.cell? ⟨u1.heap.size, 7, none⟩ = some (.string ⟨#[]⟩) := SC1.out.cell 7
    have x8 : u2.cell? ⟨u1.heap.size, 8, none⟩ = some (.string ⟨#[]⟩) := SC1.out.cell 8
    have BB2 : Hid (Below w.heap.size w (u2.alloc (.cells #[.int .i64 t2, .int .i64 i2, .int .i64 f2, .int .i64 o2, .int .i64 h2, .int .i64 p2, .string (bsL s2), .string (bsL d2), .string (bsL q2)] 24))) := BU2.out.alloc BU2.out.size _
    go_wp2_with fail
    refine (awake_any _).mono ?_
    rintro e u9 ⟨rfl, b9⟩
    go_wp2_with fail
    go_ret
    exact ⟨rfl, bel_trans BB2.out b9⟩
  have HF : Hid (Fine l) := (fine_iff l).1 he
  have HE : Hid (takeE l = 0) := he
  clear he
  go_enter Try.func7, Try.ntmps7
  go_wp2_with fail
  refine (ptake_any _ l (by omega)).mono ?_
  rintro e u1 ⟨t1, i1, f1, o1, h1, p1, s1, d1, q1, b1, c1, rfl, hq, bb⟩
  have HQ1 : Hid (hdOf (l) = ⟨t1, i1, f1, o1, h1, p1, s1, d1, q1⟩ ∧ bodyOf (l) = b1 ∧ takeE (l) = c1) := hq
  have BU1 : Hid (Below w.heap.size w u1) := bb
  clear hq bb
  obtain rfl := HQ1.out.2.2.symm.trans HE.out
  have BB1 : Hid (Below w.heap.size w (u1.alloc (.cells #[.int .i64 t1, .int .i64 i1, .int .i64 f1, .int .i64 o1, .int .i64 h1, .int .i64 p1, .string (bsL s1), .string (bsL d1), .string (bsL q1)] 24))) := BU1.out.alloc BU1.out.size _
  have SB1 : Hid (Blk (u1.alloc (.cells #[.int .i64 t1, .int .i64 i1, .int .i64 f1, .int .i64 o1, .int .i64 h1, .int .i64 p1, .string (bsL s1), .string (bsL d1), .string (bsL q1)] 24)) u1.heap.size 24 #[.int .i64 t1, .int .i64 i1, .int .i64 f1, .int .i64 o1, .int .i64 h1, .int .i64 p1, .string (bsL s1), .string (bsL d1), .string (bsL q1)]) := Blk.new _ _ _
  go_wp2_with fail
  refine (ptake_any _ (l ++ m) lm).mono ?_
  rintro e u2 ⟨t2, i2, f2, o2, h2, p2, s2, d2, q2, b2, c2, rfl, hq, bb⟩
  have HQ2 : Hid (hdOf ((l ++ m)) = ⟨t2, i2, f2, o2, h2, p2, s2, d2, q2⟩ ∧ bodyOf ((l ++ m)) = b2 ∧ takeE ((l ++ m)) = c2) := hq
  have BU2 : Hid (Below w.heap.size w u2) := bel_trans BB1.out bb
  have SC1 : Hid (Blk u2 u1.heap.size 24 #[.int .i64 t1, .int .i64 i1, .int .i64 f1, .int .i64 o1, .int .i64 h1, .int .i64 p1, .string (bsL s1), .string (bsL d1), .string (bsL q1)]) := SB1.out.since bb
  clear hq bb
  obtain ⟨k1, k2, k3⟩ := fine_more HF.out m
  have k4 := (of_fine k1).1
  obtain ⟨rfl, rfl, rfl, rfl, rfl, rfl, rfl, rfl, rfl⟩ := Hd.mk.inj (HQ1.out.1.symm.trans (k2.symm.trans HQ2.out.1))
  obtain rfl := HQ1.out.2.1.symm.trans (k3.symm.trans HQ2.out.2.1)
  obtain rfl := HQ2.out.2.2.symm.trans k4
  have HR : Hid (RightP ⟨t1, i1, f1, o1, h1, p1, s1, d1, q1⟩) := by have r := fine_right HF.out; rw [HQ1.out.1] at r; exact r
  clear k1 k2 k3 k4
  have pl : u1.heap.size < u2.heap.size := SC1.out.lt
  have x0 : u2.cell? ⟨u1.heap.size, 0, none⟩ = some (.int .i64 t1) := SC1.out.cell 0
  have x1 : u2.cell? ⟨u1.heap.size, 1, none⟩ = some (.int .i64 i1) := SC1.out.cell 1
  have x2 : u2.cell? ⟨u1.heap.size, 2, none⟩ = some (.int .i64 f1) := SC1.out.cell 2
  have x3 : u2.cell? ⟨u1.heap.size, 3, none⟩ = some (.int .i64 o1) := SC1.out.cell 3
  have x4 : u2.cell? ⟨u1.heap.size, 4, none⟩ = some (.int .i64 h1) := SC1.out.cell 4
  have x5 : u2.cell? ⟨u1.heap.size, 5, none⟩ = some (.int .i64 p1) := SC1.out.cell 5
  have x6 : u2.cell? ⟨u1.heap.size, 6, none⟩ = some (.string (bsL s1)) := SC1.out.cell 6
  have x7 : u2.cell? ⟨u1.heap.size, 7, none⟩ = some (.string (bsL d1)) := SC1.out.cell 7
  have x8 : u2.cell? ⟨u1.heap.size, 8, none⟩ = some (.string (bsL q1)) := SC1.out.cell 8
  have BB2 : Hid (Below w.heap.size w (u2.alloc (.cells #[.int .i64 t1, .int .i64 i1, .int .i64 f1, .int .i64 o1, .int .i64 h1, .int .i64 p1, .string (bsL s1), .string (bsL d1), .string (bsL q1)] 24))) := BU2.out.alloc BU2.out.size _
  go_wp2_with fail
  refine (right_any _ t1 i1 f1 o1 h1 p1 s1 d1 q1).mono ?_
  rintro e u3 ⟨B, rfl, hB, b3⟩
  have eB : B = true := hB.2 HR.out
  subst eB
  clear hB
  go_wp2_with fail
  refine (awake_any _).mono ?_
  rintro e u9 ⟨rfl, b9⟩
  go_wp2_with fail
  go_ret
  exact ⟨rfl, bel_trans (bel_trans BB2.out b3) b9⟩

/-! ### The row -/
theorem laidOut : laidOutB Try.prog = true := by kernel_rfl
set_option maxRecDepth 100000 in
theorem lifted (os : Os) (started : os.Started) (H : Type) (enc : TypeId × Value → H) :
    ReturnsInHanded {} Try.checked os 7 .any (Rows.ipfourTrailSpec.pre6 enc Try.prog Try.f7 Rows.ipfourTrailRow.domain false) (Rows.ipfourTrailSpec.post enc Try.prog Try.f7 false true false false) := by
  refine returnsInHanded_of_change (C := Try.checked) own started (by kernel_rfl) Try.func7
    (ChangeSpec.witness6 (enc := enc) (C := Try.checked) false ⟨#[], #[.string ⟨#[]⟩, .string ⟨#[]⟩], []⟩ 8 (by kernel_rfl) (by kernel_rfl) (by kernel_rfl) (by kernel_rfl)) ?_
  intro W base args ds gs before hval0 hW hcnd _
  have hval : ∀ (j : Nat) t v, Try.f7.params[j]? = some t → args[j]? = some v → Value.okWide Try.prog W .any base t v := hval0
  have hW' := hW
  obtain ⟨p, q, hA0, hV, rfl, hfz, hnd⟩ := hW
  have hA : DataW.TrodAll enc Try.prog W 0 (fun _ => true) true Try.f7.params.toList args.toList ds p := hA0
  rw [Try.params7] at hA hval
  obtain ⟨v0, vs0, d0, ds0, p0, q0, hargs, rfl, rfl, h0, r0⟩ := trodAll_cons hA
  obtain ⟨v1, vs1, d1, ds1, p1, q1, rfl, rfl, rfl, h1, r1⟩ := trodAll_cons r0
  obtain ⟨rfl, rfl, rfl⟩ := trodAll_nil r1
  obtain rfl : args = #[v0, v1] := by cases args; simp_all
  obtain ⟨rfl, rfl⟩ := trodVars_none hV
  obtain ⟨a0, rfl, rfl, rfl, w0⟩ := open_string Try.underlying9 (hval 0 9 v0 rfl rfl) h0
  obtain ⟨a1, rfl, rfl, rfl, w1⟩ := open_string Try.underlying9 (hval 1 9 v1 rfl rfl) h1
  clear hA0 hval0
  refine (walk a0 a1 W w0 w1).mono fun e W' ⟨he, bel⟩ => ?_
  subst he
  exact ⟨_, rfl, _, _, _, [], _, [], hW', trodAll_mk1 (shut_bool Try.underlying4 _), (trodAll_cons_mk (shut_string Try.underlying9 w0) (trodAll_cons_mk (shut_string Try.underlying9 w1) trodAll_mk0)), rfl, bel.frame _, fun h => by cases h⟩

theorem over : Rows.ipfourTrailRow.holds Try.pinned (OpenSpec.ofChange Rows.ipfourTrailSpec) :=
  OpenClaim.holds_of_wide 7 Try.f7 rfl rfl rfl rfl rfl rfl rfl ⟨rfl, rfl, rfl, rfl, rfl⟩ rfl rfl rfl rfl rfl (by kernel_rfl) Try.func7 (by kernel_rfl)
    (of_decide_eq_true (by kernel_rfl)) (by unfold Func.isWrapper; first | (rw [if_pos (by decide +kernel)]; kernel_rfl) | (rw [if_neg (by decide +kernel)]; exact ⟨rfl, rfl⟩))
    (fun os started H enc _ => lifted os started H enc)

theorem proved : Rows.IpfourTrailSaid := over
end Go.Proofs.Ytmblgiidfknodaa.ipfourTrail
namespace Go.Proofs.Ytmblgiidfknodaa
theorem ipfourTrail_holds : Rows.IpfourTrailSaid := ipfourTrail.proved
#print axioms ipfourTrail_holds
end Go.Proofs.Ytmblgiidfknodaa
