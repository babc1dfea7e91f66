/-
  For any bytes, at most 4096, the header at their beginning and its body are told as the document says, or refused. No condition.
-/
import Derived.Test.YtmblgiidfknodaaRows
import Derived.Test.YtmblgiidfknodaaIp4Awake
import Derived.Test.YtmblgiidfknodaaIp4RTake
import Derived.WalkKit
import Derived.ProofKit
import Derived.OpenShut
import Derived.ShutString
import Derived.ChangeOld
import Derived.ChangeMaps5
import Derived.Below
import Derived.Carry
namespace Go.Proofs.Ytmblgiidfknodaa.ipfourTakes
open Oc Ip4 Go.Deep
open Go.ChangeShapes Go.WideShapes Go.ChangeAt Go.RowKit Go.ChangeMaps
set_option linter.unusedVariables false

theorem own : ownKnob Try.prog.godebug = none := by kernel_rfl

set_option maxHeartbeats 3200000 in
theorem walk (s : ByteArray) (w : World) (ws : s.size ≤ maxLen) :
    Calls Try.prog 3 #[.string s] w fun e w' => e = .returned (.bool true) ∧ Below w.heap.size w w' := by
  obtain ⟨l, rfl⟩ : ∃ l, s = bsL l := ⟨_, bsL_of s⟩
  rw [bsL_size] at ws
  by_cases h : 4096 < l.length
  · go_enter Try.func3, Try.ntmps3
    go_wp2_with fail
    refine (awake_any _).mono ?_
    rintro e u9 ⟨rfl, b9⟩
    go_wp2_with fail
    go_ret
    exact ⟨rfl, b9⟩
  go_enter Try.func3, Try.ntmps3
  go_wp2_with fail
  refine (ptake_any _ l (by omega)).mono ?_
  rintro e u1 ⟨t1, i1, f1, o1, h1, p1, s1, d1, q1, b1, c1, rfl, hq, bb⟩
  have HQ1 : Hid (hdOf (l) = ⟨t1, i1, f1, o1, h1, p1, s1, d1, q1⟩ ∧ bodyOf (l) = b1 ∧ takeE (l) = c1) := hq
  have BU1 : Hid (Below w.heap.size w u1) := bb
  clear hq bb
  have BB1 : Hid (Below w.heap.size w (u1.alloc (.cells #[.int .i64 t1, .int .i64 i1, .int .i64 f1, .int .i64 o1, .int .i64 h1, .int .i64 p1, .string (bsL s1), .string (bsL d1), .string (bsL q1)] 24))) := BU1.out.alloc BU1.out.size _
  have SB1 : Hid (Blk (u1.alloc (.cells #[.int .i64 t1, .int .i64 i1, .int .i64 f1, .int .i64 o1, .int .i64 h1, .int .i64 p1, .string (bsL s1), .string (bsL d1), .string (bsL q1)] 24)) u1.heap.size 24 #[.int .i64 t1, .int .i64 i1, .int .i64 f1, .int .i64 o1, .int .i64 h1, .int .i64 p1, .string (bsL s1), .string (bsL d1), .string (bsL q1)]) := Blk.new _ _ _
  go_wp2_with fail
  refine (prtake_any _ l (by omega)).mono ?_
  rintro e u2 ⟨t2, i2, f2, o2, h2, p2, s2, d2, q2, b2, c2, rfl, hq, bb⟩
  have HQ2 : Hid (hdOf (l) = ⟨t2, i2, f2, o2, h2, p2, s2, d2, q2⟩ ∧ bodyOf (l) = b2 ∧ takeE (l) = c2) := hq
  have BU2 : Hid (Below w.heap.size w u2) := bel_trans BB1.out bb
  have SC1 : Hid (Blk u2 u1.heap.size 24 #[.int .i64 t1, .int .i64 i1, .int .i64 f1, .int .i64 o1, .int .i64 h1, .int .i64 p1, .string (bsL s1), .string (bsL d1), .string (bsL q1)]) := SB1.out.since bb
  clear hq bb
  obtain ⟨rfl, rfl, rfl, rfl, rfl, rfl, rfl, rfl, rfl⟩ := Hd.mk.inj (HQ1.out.1.symm.trans HQ2.out.1)
  obtain rfl := HQ1.out.2.1.symm.trans HQ2.out.2.1
  obtain rfl := HQ1.out.2.2.symm.trans HQ2.out.2.2
  have pl : u1.heap.size < u2.heap.size := SC1.out.lt
  have x0 : u2.cell? ⟨u1.heap.size, 0, none⟩ = some (.int .i64 t1) := SC1.out.cell 0
  have x1 : u2.cell? ⟨u1.heap.size, 1, none⟩ = some (.int .i64 i1) := SC1.out.cell 1
  have x2 : u2.cell? ⟨u1.heap.size, 2, none⟩ = some (.int .i64 f1) := SC1.out.cell 2
  have x3 : u2.cell? ⟨u1.heap.size, 3, none⟩ = some (.int .i64 o1) := SC1.out.cell 3
  have x4 : u2.cell? ⟨u1.heap.size, 4, none⟩ = some (.int .i64 h1) := SC1.out.cell 4
  have x5 : u2.cell? ⟨u1.heap.size, 5, none⟩ = some (.int .i64 p1) := SC1.out.cell 5
  have x6 : u2.cell? ⟨u1.heap.size, 6, none⟩ = some (.string (bsL s1)) := SC1.out.cell 6
  have x7 : u2.cell? ⟨u1.heap.size, 7, none⟩ = some (.string (bsL d1)) := SC1.out.cell 7
  have x8 : u2.cell? ⟨u1.heap.size, 8, none⟩ = some (.string (bsL q1)) := SC1.out.cell 8
  have BB2 : Hid (Below w.heap.size w (u2.alloc (.cells #[.int .i64 t1, .int .i64 i1, .int .i64 f1, .int .i64 o1, .int .i64 h1, .int .i64 p1, .string (bsL s1), .string (bsL d1), .string (bsL q1)] 28))) := BU2.out.alloc BU2.out.size _
  go_wp2_with fail
  refine (awake_any _).mono ?_
  rintro e u9 ⟨rfl, b9⟩
  go_wp2_with fail
  go_ret
  exact ⟨rfl, bel_trans BB2.out b9⟩

/-! ### The row -/
theorem laidOut : laidOutB Try.prog = true := by kernel_rfl
set_option maxRecDepth 100000 in
theorem lifted (os : Os) (started : os.Started) (H : Type) (enc : TypeId × Value → H) :
    ReturnsInHanded {} Try.checked os 3 .any (Rows.ipfourTakesSpec.pre6 enc Try.prog Try.f3 Rows.ipfourTakesRow.domain false) (Rows.ipfourTakesSpec.post enc Try.prog Try.f3 false true false false) := by
  refine returnsInHanded_of_change (C := Try.checked) own started (by kernel_rfl) Try.func3
    (ChangeSpec.witness6 (enc := enc) (C := Try.checked) false ⟨#[], #[.string ⟨#[]⟩], []⟩ 8 (by kernel_rfl) (by kernel_rfl) (by kernel_rfl) (by kernel_rfl)) ?_
  intro W base args ds gs before hval0 hW hcnd _
  have hval : ∀ (j : Nat) t v, Try.f3.params[j]? = some t → args[j]? = some v → Value.okWide Try.prog W .any base t v := hval0
  have hW' := hW
  obtain ⟨p, q, hA0, hV, rfl, hfz, hnd⟩ := hW
  have hA : DataW.TrodAll enc Try.prog W 0 (fun _ => true) true Try.f3.params.toList args.toList ds p := hA0
  rw [Try.params3] at hA hval
  obtain ⟨v0, vs0, d0, ds0, p0, q0, hargs, rfl, rfl, h0, r0⟩ := trodAll_cons hA
  obtain ⟨rfl, rfl, rfl⟩ := trodAll_nil r0
  obtain rfl : args = #[v0] := by cases args; simp_all
  obtain ⟨rfl, rfl⟩ := trodVars_none hV
  obtain ⟨a0, rfl, rfl, rfl, w0⟩ := open_string Try.underlying9 (hval 0 9 v0 rfl rfl) h0
  clear hA0 hval0
  refine (walk a0 W w0).mono fun e W' ⟨he, bel⟩ => ?_
  subst he
  exact ⟨_, rfl, _, _, _, [], _, [], hW', trodAll_mk1 (shut_bool Try.underlying4 _), (trodAll_cons_mk (shut_string Try.underlying9 w0) trodAll_mk0), rfl, bel.frame _, fun h => by cases h⟩

theorem over : Rows.ipfourTakesRow.holds Try.pinned (OpenSpec.ofChange Rows.ipfourTakesSpec) :=
  OpenClaim.holds_of_wide 3 Try.f3 rfl rfl rfl rfl rfl rfl rfl ⟨rfl, rfl, rfl, rfl, rfl⟩ rfl rfl rfl rfl rfl (by kernel_rfl) Try.func3 (by kernel_rfl)
    (of_decide_eq_true (by kernel_rfl)) (by unfold Func.isWrapper; first | (rw [if_pos (by decide +kernel)]; kernel_rfl) | (rw [if_neg (by decide +kernel)]; exact ⟨rfl, rfl⟩))
    (fun os started H enc _ => lifted os started H enc)

theorem proved : Rows.IpfourTakesSaid := over
end Go.Proofs.Ytmblgiidfknodaa.ipfourTakes
namespace Go.Proofs.Ytmblgiidfknodaa
theorem ipfourTakes_holds : Rows.IpfourTakesSaid := ipfourTakes.proved
#print axioms ipfourTakes_holds
end Go.Proofs.Ytmblgiidfknodaa
