/-
  Of any bytes, at most 4096, the flow is told as the document says, or it is refused for the reason that the document says. No condition.
-/
import Derived.Test.YticopigpgaomjaaRows
import Derived.Test.YticopigpgaomjaaFlowTake
import Derived.Test.YticopigpgaomjaaFlowRTake
import Derived.WalkKit
import Derived.ProofKit
import Derived.OpenShut
import Derived.ShutString
import Derived.ChangeOld
import Derived.ChangeMaps5
import Derived.Below
import Derived.Carry
import Derived.Laws.StructEq
namespace Go.Proofs.Yticopigpgaomjaa.flowExtracts
open Oc Pt Fl Go.Deep
open Go.ChangeShapes Go.WideShapes Go.ChangeAt Go.RowKit Go.ChangeMaps
set_option linter.unusedVariables false

theorem own : ownKnob Try.prog.godebug = none := by kernel_rfl

set_option maxHeartbeats 3200000 in
theorem walk (s : ByteArray) (w : World) (ws : s.size ≤ maxLen) :
    Calls Try.prog 3 #[.string s] w fun e w' => e = .returned (.bool true) ∧ Below w.heap.size w w' := by
  obtain ⟨l, rfl⟩ : ∃ l, s = bsL l := ⟨_, bsL_of s⟩
  rw [bsL_size] at ws
  by_cases h : 4096 < l.length
  · go_enter Try.func3, Try.ntmps3
    go_wp2_with fail
    refine (fl_awake _).mono ?_
    rintro e u9 ⟨rfl, b9⟩
    go_wp2_with fail
    go_ret
    exact ⟨rfl, b9⟩
  go_enter Try.func3, Try.ntmps3
  go_wp2_with fail
  refine (fl_extract _ l (by omega)).mono ?_
  rintro e u1 ⟨s1, d1, p1, a1, c1, E1, rfl, hE, bb⟩
  have HE1 : Hid (ansOf l = ⟨⟨s1, d1, p1, a1, c1⟩, E1⟩) := hE
  have BU1 : Hid (Below w.heap.size w u1) := bb
  clear hE bb
  have BB1 : Hid (Below w.heap.size w (u1.alloc (.cells #[.string (bsL s1), .string (bsL d1), .int .i64 p1, .int .i64 (a1 : Int), .int .i64 (c1 : Int)] 24))) := bel_trans BU1.out (bel_alloc _ _)
  have SB1 : Hid (Blk (u1.alloc (.cells #[.string (bsL s1), .string (bsL d1), .int .i64 p1, .int .i64 (a1 : Int), .int .i64 (c1 : Int)] 24)) u1.heap.size 24 #[.string (bsL s1), .string (bsL d1), .int .i64 p1, .int .i64 (a1 : Int), .int .i64 (c1 : Int)]) := Blk.new _ _ _
  go_wp2_with fail
  refine (fl_rextract _ l (by omega)).mono ?_
  rintro e u2 ⟨s2, d2, p2, a2, c2, E2, rfl, hE, bb⟩
  obtain ⟨g0, rfl⟩ := Ans.mk.inj (HE1.out.symm.trans hE)
  obtain ⟨rfl, rfl, rfl, rfl, rfl⟩ := Fw.mk.inj g0
  clear g0 hE
  have SC1 : Hid (Blk u2 u1.heap.size 24 #[.string (bsL s1), .string (bsL d1), .int .i64 p1, .int .i64 (a1 : Int), .int .i64 (c1 : Int)]) := SB1.out.since bb
  have pl : u1.heap.size < u2.heap.size := SC1.out.lt
  have BB2 : Hid (Below w.heap.size w (u2.alloc (.cells #[.string (bsL s1), .string (bsL d1), .int .i64 p1, .int .i64 (a1 : Int), .int .i64 (c1 : Int)] 24))) := bel_trans (bel_trans BB1.out bb) (bel_alloc _ _)
  clear bb
  have x0 : u2.cell? ⟨u1.heap.size, 0, none⟩ = some (.string (bsL s1)) := SC1.out.cell 0
  have x1 : u2.cell? ⟨u1.heap.size, 1, none⟩ = some (.string (bsL d1)) := SC1.out.cell 1
  have x2 : u2.cell? ⟨u1.heap.size, 2, none⟩ = some (.int .i64 p1) := SC1.out.cell 2
  have x3 : u2.cell? ⟨u1.heap.size, 3, none⟩ = some (.int .i64 (a1 : Int)) := SC1.out.cell 3
  have x4 : u2.cell? ⟨u1.heap.size, 4, none⟩ = some (.int .i64 (c1 : Int)) := SC1.out.cell 4
  go_wp2_with fail
  refine (fl_awake _).mono ?_
  rintro e u9 ⟨rfl, b9⟩
  go_wp2_with fail
  go_ret
  exact ⟨rfl, bel_trans BB2.out b9⟩

/-! ### The row -/
theorem laidOut : laidOutB Try.prog = true := by kernel_rfl
set_option maxRecDepth 100000 in
theorem lifted (os : Os) (started : os.Started) (H : Type) (enc : TypeId × Value → H) :
    ReturnsInHanded {} Try.checked os 3 .any (Rows.flowExtractsSpec.pre6 enc Try.prog Try.f3 Rows.flowExtractsRow.domain false) (Rows.flowExtractsSpec.post enc Try.prog Try.f3 false true false false) := by
  refine returnsInHanded_of_change (C := Try.checked) own started (by kernel_rfl) Try.func3
    (ChangeSpec.witness6 (enc := enc) (C := Try.checked) false ⟨#[], #[.string ⟨#[]⟩], []⟩ 8 (by kernel_rfl) (by kernel_rfl) (by kernel_rfl) (by kernel_rfl)) ?_
  intro W base args ds gs before hval0 hW hcnd _
  have hval : ∀ (j : Nat) t v, Try.f3.params[j]? = some t → args[j]? = some v → Value.okWide Try.prog W .any base t v := hval0
  have hW' := hW
  obtain ⟨p, q, hA0, hV, rfl, hfz, hnd⟩ := hW
  have hA : DataW.TrodAll enc Try.prog W 0 (fun _ => true) true Try.f3.params.toList args.toList ds p := hA0
  rw [Try.params3] at hA hval
  obtain ⟨v0, vs0, d0, ds0, p0, q0, hargs, rfl, rfl, h0, r0⟩ := trodAll_cons hA
  obtain ⟨rfl, rfl, rfl⟩ := trodAll_nil r0
  obtain rfl : args = #[v0] := by cases args; simp_all
  obtain ⟨rfl, rfl⟩ := trodVars_none hV
  obtain ⟨a0, rfl, rfl, rfl, w0⟩ := open_string Try.underlying9 (hval 0 9 v0 rfl rfl) h0
  clear hA0 hval0
  refine (walk a0 W w0).mono fun e W' ⟨he, bel⟩ => ?_
  subst he
  exact ⟨_, rfl, _, _, _, [], _, [], hW', trodAll_mk1 (shut_bool Try.underlying4 _), (trodAll_cons_mk (shut_string Try.underlying9 w0) trodAll_mk0), rfl, bel.frame _, fun h => by cases h⟩

theorem over : Rows.flowExtractsRow.holds Try.pinned (OpenSpec.ofChange Rows.flowExtractsSpec) :=
  OpenClaim.holds_of_wide 3 Try.f3 rfl rfl rfl rfl rfl rfl rfl ⟨rfl, rfl, rfl, rfl, rfl⟩ rfl rfl rfl rfl rfl (by kernel_rfl) Try.func3 (by kernel_rfl)
    (of_decide_eq_true (by kernel_rfl)) (by unfold Func.isWrapper; first | (rw [if_pos (by decide +kernel)]; kernel_rfl) | (rw [if_neg (by decide +kernel)]; exact ⟨rfl, rfl⟩))
    (fun os started H enc _ => lifted os started H enc)

theorem proved : Rows.FlowExtractsSaid := over
end Go.Proofs.Yticopigpgaomjaa.flowExtracts
namespace Go.Proofs.Yticopigpgaomjaa
theorem flowExtracts_holds : Rows.FlowExtractsSaid := flowExtracts.proved
#print axioms flowExtracts_holds
end Go.Proofs.Yticopigpgaomjaa
