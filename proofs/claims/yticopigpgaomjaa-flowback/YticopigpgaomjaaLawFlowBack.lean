/-
  Any key, at most 1024 bytes, is its flow's, or refused. No condition.
-/
import Derived.Test.YticopigpgaomjaaRows
import Derived.Test.YticopigpgaomjaaFlowRef
import Derived.WalkKit
import Derived.ProofKit
import Derived.OpenShut
import Derived.ShutString
import Derived.ChangeOld
import Derived.ChangeMaps5
import Derived.Below
import Derived.Carry
import Derived.Laws.StructEq
namespace Go.Proofs.Yticopigpgaomjaa.flowBack
open Oc Pt Fl Go.Deep
open Go.ChangeShapes Go.WideShapes Go.ChangeAt Go.RowKit Go.ChangeMaps
set_option linter.unusedVariables false

theorem own : ownKnob Try.prog.godebug = none := by kernel_rfl

set_option maxHeartbeats 3200000 in
theorem walk (s : ByteArray) (w : World) (ws : s.size ≤ maxLen) :
    Calls Try.prog 5 #[.string s] w fun e w' => e = .returned (.bool true) ∧ Below w.heap.size w w' := by
  obtain ⟨l, rfl⟩ : ∃ l, s = bsL l := ⟨_, bsL_of s⟩
  rw [bsL_size] at ws
  by_cases h : 1024 < l.length
  · go_enter Try.func5, Try.ntmps5
    go_wp2_with fail
    refine (fl_awake _).mono ?_
    rintro e u9 ⟨rfl, b9⟩
    go_wp2_with fail
    go_ret
    exact ⟨rfl, b9⟩
  by_cases h7 : l.length = 37
  rotate_left
  · have SK : Hid (srcK l = [] ∧ dstK l = []) := by constructor <;> simp [srcK, dstK, h7]
    have D7 : Hid (decide (l.length = 37) = false) := decide_eq_false h7
    have VZ : Hid (viewOf l = zeroFw ∧ ansK l = ⟨zeroFw, 1⟩) := by
      have v := view_no h7
      refine ⟨v, ?_⟩
      unfold ansK
      rw [v, if_neg h7]
    clear h7
    go_enter Try.func5, Try.ntmps5
    go_wp2_with fail
    refine (fl_of _ l (by omega)).mono ?_
    rintro e u1 ⟨s1, d1, p1, a1, c1, E1, rfl, hE, b1⟩
    rw [VZ.out.2] at hE
    obtain ⟨g0, rfl⟩ := Ans.mk.inj hE
    obtain ⟨rfl, rfl, rfl, rfl, rfl⟩ := Fw.mk.inj g0
    clear g0 hE
    rw [show bsL [] = ⟨#[]⟩ from rfl]
    have BB1 : Hid (Below w.heap.size w (u1.alloc (.cells #[.string ⟨#[]⟩, .string ⟨#[]⟩, .int .i64 0, .int .i64 0, .int .i64 0] 24))) := bel_trans b1 (bel_alloc _ _)
    have SB1 : Hid (Blk (u1.alloc (.cells #[.string ⟨#[]⟩, .string ⟨#[]⟩, .int .i64 0, .int .i64 0, .int .i64 0] 24)) u1.heap.size 24 #[.string ⟨#[]⟩, .string ⟨#[]⟩, .int .i64 0, .int .i64 0, .int .i64 0]) := Blk.new _ _ _
    clear b1
    go_wp2_with fail
    refine (fl_rof _ l (by omega)).mono ?_
    rintro e u2 ⟨s2, d2, p2, a2, c2, rfl, hE, b2⟩
    rw [VZ.out.1] at hE
    obtain ⟨rfl, rfl, rfl, rfl, rfl⟩ := Fw.mk.inj hE
    clear hE
    rw [D7.out, show bsL [] = ⟨#[]⟩ from rfl]
    have SC1 : Hid (Blk u2 u1.heap.size 24 #[.string ⟨#[]⟩, .string ⟨#[]⟩, .int .i64 0, .int .i64 0, .int .i64 0]) := SB1.out.since b2
    have pl : u1.heap.size < u2.heap.size := SC1.out.lt
    have BB2 : Hid (Below w.heap.size w (u2.alloc (.cells #[.string ⟨#[]⟩, .string ⟨#[]⟩, .int .i64 0, .int .i64 0, .int .i64 0] 24))) := bel_trans (bel_trans BB1.out b2) (bel_alloc _ _)
    clear b2
    have x0 : u2.cell? ⟨u1.heap.size, 0, none⟩ = some (.string ⟨#[]⟩) := SC1.out.cell 0
    have x1 : u2.cell? ⟨u1.heap.size, 1, none⟩ = some (.string ⟨#[]⟩) := SC1.out.cell 1
    have x2 : u2.cell? ⟨u1.heap.size, 2, none⟩ = some (.int .i64 0) := SC1.out.cell 2
    have x3 : u2.cell? ⟨u1.heap.size, 3, none⟩ = some (.int .i64 0) := SC1.out.cell 3
    have x4 : u2.cell? ⟨u1.heap.size, 4, none⟩ = some (.int .i64 0) := SC1.out.cell 4
    go_wp2_with fail
    refine (fl_source l _ (by omega)).mono ?_
    rintro e u3 ⟨rfl, rfl⟩
    rw [SK.out.1, show bsL [] = ⟨#[]⟩ from rfl]
    go_wp2_with fail
    refine (fl_target l _ (by omega)).mono ?_
    rintro e u3 ⟨rfl, rfl⟩
    rw [SK.out.2, show bsL [] = ⟨#[]⟩ from rfl]
    go_wp2_with fail
    refine (fl_awake _).mono ?_
    rintro e u9 ⟨rfl, b9⟩
    go_wp2_with fail
    go_ret
    exact ⟨rfl, bel_trans BB2.out b9⟩
  have D7 : Hid (decide (l.length = 37) = true) := decide_eq_true h7
  obtain ⟨s1, hs⟩ : ∃ s, s = l.take 16 := ⟨_, rfl⟩
  obtain ⟨d1, hd⟩ : ∃ d, d = (l.drop 16).take 16 := ⟨_, rfl⟩
  obtain ⟨P, hP⟩ : ∃ P, P = nAt l 32 1 := ⟨_, rfl⟩
  obtain ⟨a1, hA⟩ : ∃ A, A = nAt l 33 2 := ⟨_, rfl⟩
  obtain ⟨c1, hB⟩ : ∃ B, B = nAt l 35 2 := ⟨_, rfl⟩
  have VZ : Hid (viewOf l = ⟨s1, d1, P, a1, c1⟩ ∧ ansK l = ⟨⟨s1, d1, P, a1, c1⟩, 0⟩) := by
    have v := view_yes h7
    rw [← hs, ← hd, ← hP, ← hA, ← hB] at v
    refine ⟨v, ?_⟩
    unfold ansK
    rw [v, if_pos h7]
  have KY : Hid (keyL s1 d1 P a1 c1 = l) := by
    show keyL s1 d1 P a1 c1 = l
    rw [hs, hd, hP, hA, hB]
    exact key_of h7
  have RI : Hid (RightF ⟨s1, d1, P, a1, c1⟩) := by
    have n1 := nAt_le1 l 32
    have n2 := nAt_le2 l 33
    have n3 := nAt_le2 l 35
    refine ⟨?_, ?_, ?_, ?_, ?_⟩
    · show s1.length = 16
      rw [hs]; simp; omega
    · show d1.length = 16
      rw [hd]; simp; omega
    · show (0 : Int) ≤ (P : Int) ∧ (P : Int) ≤ 255
      omega
    · show (0 : Int) ≤ (a1 : Int) ∧ (a1 : Int) ≤ 65535
      omega
    · show (0 : Int) ≤ (c1 : Int) ∧ (c1 : Int) ≤ 65535
      omega
  clear hs hd hP hA hB h7
  go_enter Try.func5, Try.ntmps5
  go_wp2_with fail
  refine (fl_of _ l (by omega)).mono ?_
  rintro e u1 ⟨s2, d2, p2, a2, c2, E1, rfl, hE, b1⟩
  rw [VZ.out.2] at hE
  obtain ⟨g0, rfl⟩ := Ans.mk.inj hE
  obtain ⟨rfl, rfl, rfl, rfl, rfl⟩ := Fw.mk.inj g0
  clear g0 hE
  have BB1 : Hid (Below w.heap.size w (u1.alloc (.cells #[.string (bsL s1), .string (bsL d1), .int .i64 (P : Int), .int .i64 (a1 : Int), .int .i64 (c1 : Int)] 24))) := bel_trans b1 (bel_alloc _ _)
  have SB1 : Hid (Blk (u1.alloc (.cells #[.string (bsL s1), .string (bsL d1), .int .i64 (P : Int), .int .i64 (a1 : Int), .int .i64 (c1 : Int)] 24)) u1.heap.size 24 #[.string (bsL s1), .string (bsL d1), .int .i64 (P : Int), .int .i64 (a1 : Int), .int .i64 (c1 : Int)]) := Blk.new _ _ _
  clear b1
  go_wp2_with fail
  refine (fl_rof _ l (by omega)).mono ?_
  rintro e u2 ⟨s2, d2, p2, a2, c2, rfl, hE, b2⟩
  rw [VZ.out.1] at hE
  obtain ⟨rfl, rfl, rfl, rfl, rfl⟩ := Fw.mk.inj hE
  clear hE
  rw [D7.out]
  have SC1 : Hid (Blk (u2.alloc (.cells #[.string (bsL s1), .string (bsL d1), .int .i64 (P : Int), .int .i64 (a1 : Int), .int .i64 (c1 : Int)] 24)) u1.heap.size 24 #[.string (bsL s1), .string (bsL d1), .int .i64 (P : Int), .int .i64 (a1 : Int), .int .i64 (c1 : Int)]) := (SB1.out.since b2).alloc _
  have SD1 : Hid (Blk u2 u1.heap.size 24 #[.string (bsL s1), .string (bsL d1), .int .i64 (P : Int), .int .i64 (a1 : Int), .int .i64 (c1 : Int)]) := SB1.out.since b2
  have SE1 : Hid (Blk (u2.alloc (.cells #[.string (bsL s1), .string (bsL d1), .int .i64 (P : Int), .int .i64 (a1 : Int), .int .i64 (c1 : Int)] 24)) u2.heap.size 24 #[.string (bsL s1), .string (bsL d1), .int .i64 (P : Int), .int .i64 (a1 : Int), .int .i64 (c1 : Int)]) := Blk.new _ _ _
  have pl : u1.heap.size < u2.heap.size := SD1.out.lt
  have BB2 : Hid (Below w.heap.size w (u2.alloc (.cells #[.string (bsL s1), .string (bsL d1), .int .i64 (P : Int), .int .i64 (a1 : Int), .int .i64 (c1 : Int)] 24))) := bel_trans (bel_trans BB1.out b2) (bel_alloc _ _)
  clear b2
  have x0 : u2.cell? ⟨u1.heap.size, 0, none⟩ = some (.string (bsL s1)) := SD1.out.cell 0
  have x1 : u2.cell? ⟨u1.heap.size, 1, none⟩ = some (.string (bsL d1)) := SD1.out.cell 1
  have x2 : u2.cell? ⟨u1.heap.size, 2, none⟩ = some (.int .i64 (P : Int)) := SD1.out.cell 2
  have x3 : u2.cell? ⟨u1.heap.size, 3, none⟩ = some (.int .i64 (a1 : Int)) := SD1.out.cell 3
  have x4 : u2.cell? ⟨u1.heap.size, 4, none⟩ = some (.int .i64 (c1 : Int)) := SD1.out.cell 4
  go_wp2_with fail
  refine (fl_key_ok _ s1 d1 P a1 c1 RI.out).mono ?_
  rintro e u3 ⟨rfl, b3⟩
  rw [KY.out]
  have SC2 : Hid (Blk u3 u1.heap.size 24 #[.string (bsL s1), .string (bsL d1), .int .i64 (P : Int), .int .i64 (a1 : Int), .int .i64 (c1 : Int)]) := SC1.out.since b3
  have SE2 : Hid (Blk u3 u2.heap.size 24 #[.string (bsL s1), .string (bsL d1), .int .i64 (P : Int), .int .i64 (a1 : Int), .int .i64 (c1 : Int)]) := SE1.out.since b3
  have BB3 : Hid (Below w.heap.size w u3) := bel_trans BB2.out b3
  clear b3 x0 x1 x2 x3 x4
  have x0 : u3.cell? ⟨u1.heap.size, 0, none⟩ = some (.string (bsL s1)) := SC2.out.cell 0
  have x1 : u3.cell? ⟨u1.heap.size, 1, none⟩ = some (.string (bsL d1)) := SC2.out.cell 1
  have x2 : u3.cell? ⟨u1.heap.size, 2, none⟩ = some (.int .i64 (P : Int)) := SC2.out.cell 2
  have x3 : u3.cell? ⟨u1.heap.size, 3, none⟩ = some (.int .i64 (a1 : Int)) := SC2.out.cell 3
  have x4 : u3.cell? ⟨u1.heap.size, 4, none⟩ = some (.int .i64 (c1 : Int)) := SC2.out.cell 4
  have y0 : u3.cell? ⟨u2.heap.size, 0, none⟩ = some (.string (bsL s1)) := SE2.out.cell 0
  have y1 : u3.cell? ⟨u2.heap.size, 1, none⟩ = some (.string (bsL d1)) := SE2.out.cell 1
  have y2 : u3.cell? ⟨u2.heap.size, 2, none⟩ = some (.int .i64 (P : Int)) := SE2.out.cell 2
  have y3 : u3.cell? ⟨u2.heap.size, 3, none⟩ = some (.int .i64 (a1 : Int)) := SE2.out.cell 3
  have y4 : u3.cell? ⟨u2.heap.size, 4, none⟩ = some (.int .i64 (c1 : Int)) := SE2.out.cell 4
  go_wp2_with fail
  refine (fl_right _ s1 d1 P a1 c1).mono ?_
  rintro e u4 ⟨B, rfl, hB, b4⟩
  have eB : B = true := hB.2 RI.out
  subst eB
  clear hB
  have BB4 : Hid (Below w.heap.size w u4) := bel_trans BB3.out b4
  clear b4
  go_wp2_with fail
  refine (fl_awake _).mono ?_
  rintro e u9 ⟨rfl, b9⟩
  go_wp2_with fail
  go_ret
  exact ⟨rfl, bel_trans BB4.out b9⟩

/-! ### The row -/
theorem laidOut : laidOutB Try.prog = true := by kernel_rfl
set_option maxRecDepth 100000 in
theorem lifted (os : Os) (started : os.Started) (H : Type) (enc : TypeId × Value → H) :
    ReturnsInHanded {} Try.checked os 5 .any (Rows.flowBackSpec.pre6 enc Try.prog Try.f5 Rows.flowBackRow.domain false) (Rows.flowBackSpec.post enc Try.prog Try.f5 false true false false) := by
  refine returnsInHanded_of_change (C := Try.checked) own started (by kernel_rfl) Try.func5
    (ChangeSpec.witness6 (enc := enc) (C := Try.checked) false ⟨#[], #[.string ⟨#[]⟩], []⟩ 8 (by kernel_rfl) (by kernel_rfl) (by kernel_rfl) (by kernel_rfl)) ?_
  intro W base args ds gs before hval0 hW hcnd _
  have hval : ∀ (j : Nat) t v, Try.f5.params[j]? = some t → args[j]? = some v → Value.okWide Try.prog W .any base t v := hval0
  have hW' := hW
  obtain ⟨p, q, hA0, hV, rfl, hfz, hnd⟩ := hW
  have hA : DataW.TrodAll enc Try.prog W 0 (fun _ => true) true Try.f5.params.toList args.toList ds p := hA0
  rw [Try.params5] at hA hval
  obtain ⟨v0, vs0, d0, ds0, p0, q0, hargs, rfl, rfl, h0, r0⟩ := trodAll_cons hA
  obtain ⟨rfl, rfl, rfl⟩ := trodAll_nil r0
  obtain rfl : args = #[v0] := by cases args; simp_all
  obtain ⟨rfl, rfl⟩ := trodVars_none hV
  obtain ⟨a0, rfl, rfl, rfl, w0⟩ := open_string Try.underlying9 (hval 0 9 v0 rfl rfl) h0
  clear hA0 hval0
  refine (walk a0 W w0).mono fun e W' ⟨he, bel⟩ => ?_
  subst he
  exact ⟨_, rfl, _, _, _, [], _, [], hW', trodAll_mk1 (shut_bool Try.underlying4 _), (trodAll_cons_mk (shut_string Try.underlying9 w0) trodAll_mk0), rfl, bel.frame _, fun h => by cases h⟩

theorem over : Rows.flowBackRow.holds Try.pinned (OpenSpec.ofChange Rows.flowBackSpec) :=
  OpenClaim.holds_of_wide 5 Try.f5 rfl rfl rfl rfl rfl rfl rfl ⟨rfl, rfl, rfl, rfl, rfl⟩ rfl rfl rfl rfl rfl (by kernel_rfl) Try.func5 (by kernel_rfl)
    (of_decide_eq_true (by kernel_rfl)) (by unfold Func.isWrapper; first | (rw [if_pos (by decide +kernel)]; kernel_rfl) | (rw [if_neg (by decide +kernel)]; exact ⟨rfl, rfl⟩))
    (fun os started H enc _ => lifted os started H enc)

theorem proved : Rows.FlowBackSaid := over
end Go.Proofs.Yticopigpgaomjaa.flowBack
namespace Go.Proofs.Yticopigpgaomjaa
theorem flowBack_holds : Rows.FlowBackSaid := flowBack.proved
#print axioms flowBack_holds
end Go.Proofs.Yticopigpgaomjaa
