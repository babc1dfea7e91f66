/-
  For any bytes, at most 4096, the header at their beginning, its chain, and its body are told as the document says, or refused. No condition.
-/
import Derived.Test.YtjbpbahaekbmlaaRows
import Derived.Test.YtjbpbahaekbmlaaIp6Awake
import Derived.Test.YtjbpbahaekbmlaaIp6Eq
import Derived.Test.YtjbpbahaekbmlaaIp6RTake
import Derived.Test.YtjbpbahaekbmlaaIp6Piece
import Derived.WalkKit
import Derived.ProofKit
import Derived.OpenShut
import Derived.ShutString
import Derived.ChangeOld
import Derived.ChangeMaps5
import Derived.Below
import Derived.Carry
namespace Go.Proofs.Ytjbpbahaekbmlaa.ipsixTakes
open Oc Ip6 Go.Deep
open Go.ChangeShapes Go.WideShapes Go.ChangeAt Go.RowKit Go.ChangeMaps
set_option linter.unusedVariables false

theorem own : ownKnob Try.prog.godebug = none := by kernel_rfl

set_option maxHeartbeats 6400000 in
theorem walk (s : ByteArray) (w : World) (ws : s.size ≤ maxLen) :
    Calls Try.prog 3 #[.string s] w fun e w' => e = .returned (.bool true) ∧ Below w.heap.size w w' := by
  obtain ⟨l, rfl⟩ : ∃ l, s = bsL l := ⟨_, bsL_of s⟩
  rw [bsL_size] at ws
  by_cases h : 4096 < l.length
  · go_enter Try.func3, Try.ntmps3
    go_wp2_with fail
    refine (awake_any _).mono ?_
    rintro e u9 ⟨rfl, b9⟩
    go_wp2_with fail
    go_ret
    exact ⟨rfl, b9⟩
  go_enter Try.func3, Try.ntmps3
  go_wp2_with fail
  refine (ptake_any _ (l) (by omega)).mono ?_
  rintro e u1 ⟨c1, b1, h1, p1, s1, d1, C1, A1, n1, k1, r1, E1, rfl, hq, hC, bb⟩
  have HQ1 : Hid (hdOf (l) = ⟨c1, b1, h1, p1, s1, d1, C1⟩ ∧ bodyOf (l) = r1 ∧ takeE (l) = E1 ∧ C1.length = n1) := hq
  have HX1 : Hid (∀ w' : World, Keep u1 w' → HdAt w' (.agg #[.int .i64 c1, .int .i64 b1, .int .i64 h1, .int .i64 p1, .string (bsL s1), .string (bsL d1), .slice A1 n1 k1]) ⟨c1, b1, h1, p1, s1, d1, C1⟩) := fun w' k => ⟨_, rfl, by have e := hq.2.2.2; subst e; exact hC.keep k⟩
  have BU1 : Hid (Below w.heap.size w u1) := bb
  clear hq hC bb
  have BB1 : Hid (Below w.heap.size w (u1.alloc (.cells #[.int .i64 c1, .int .i64 b1, .int .i64 h1, .int .i64 p1, .string (bsL s1), .string (bsL d1), .slice A1 n1 k1] 25))) := BU1.out.alloc BU1.out.size _
  have SB1 : Hid (Blk (u1.alloc (.cells #[.int .i64 c1, .int .i64 b1, .int .i64 h1, .int .i64 p1, .string (bsL s1), .string (bsL d1), .slice A1 n1 k1] 25)) u1.heap.size 25 #[.int .i64 c1, .int .i64 b1, .int .i64 h1, .int .i64 p1, .string (bsL s1), .string (bsL d1), .slice A1 n1 k1]) := Blk.new _ _ _
  go_wp2_with fail
  refine (prtake_any _ (l) (by omega)).mono ?_
  rintro e u2 ⟨c2, b2, h2, p2, s2, d2, C2, A2, n2, k2, r2, E2, rfl, hq, hC, bb⟩
  have HQ2 : Hid (hdOf (l) = ⟨c2, b2, h2, p2, s2, d2, C2⟩ ∧ bodyOf (l) = r2 ∧ takeE (l) = E2 ∧ C2.length = n2) := hq
  have HX2 : Hid (∀ w' : World, Keep u2 w' → HdAt w' (.agg #[.int .i64 c2, .int .i64 b2, .int .i64 h2, .int .i64 p2, .string (bsL s2), .string (bsL d2), .slice A2 n2 k2]) ⟨c2, b2, h2, p2, s2, d2, C2⟩) := fun w' k => ⟨_, rfl, by have e := hq.2.2.2; subst e; exact hC.keep k⟩
  have BU2 : Hid (Below w.heap.size w u2) := bel_trans BB1.out bb
  have SC1 : Hid (Blk u2 u1.heap.size 25 #[.int .i64 c1, .int .i64 b1, .int .i64 h1, .int .i64 p1, .string (bsL s1), .string (bsL d1), .slice A1 n1 k1]) := SB1.out.since bb
  have KP2 : Hid (Keep u1 u2) := (keep_of_below (bel_alloc _ _)).trans (keep_of_below bb)
  clear hq hC bb
  obtain ⟨rfl, rfl, rfl, rfl, rfl, rfl, rfl⟩ := Hd.mk.inj (HQ1.out.1.symm.trans HQ2.out.1)
  obtain rfl := HQ1.out.2.1.symm.trans HQ2.out.2.1
  obtain rfl := HQ1.out.2.2.1.symm.trans HQ2.out.2.2.1
  obtain rfl := HQ1.out.2.2.2.symm.trans HQ2.out.2.2.2
  have HS : Hid (C1.length ≤ 8 ∧ ∀ (i : Nat) (x : Ex), C1[i]? = some x → x.data.length ≤ 2046) := by have e := hd_small l; rw [HQ1.out.1] at e; exact e
  have hn1 : Hid (C1.length * 24 ≤ 140737488355328) := by show _ ≤ _; have := HS.out.1; omega
  have hn2 : Hid (C1.length ≤ 9223372036854775807) := by show _ ≤ _; have := HS.out.1; omega
  have hn3 : Hid (∀ (i : Nat) (x : Ex), C1[i]? = some x → x.data.length ≤ 1152921504606846976) := fun i x hx => by have := HS.out.2 i x hx; omega
  obtain ⟨PB, hPB⟩ : ∃ PB : Bool, PB = true ↔ PieceP C1 := by
    rcases Classical.em (PieceP C1) with h | h
    · exact ⟨true, ⟨fun _ => h, fun _ => rfl⟩⟩
    · exact ⟨false, ⟨fun e => (by cases e), fun e => absurd e h⟩⟩
  have HP : Hid (PB = true ↔ PieceP C1) := hPB
  clear hPB
  have pl : u1.heap.size < u2.heap.size := SC1.out.lt
  have x0 : u2.cell? ⟨u1.heap.size, 0, none⟩ = some (.int .i64 c1) := SC1.out.cell 0
  have x1 : u2.cell? ⟨u1.heap.size, 1, none⟩ = some (.int .i64 b1) := SC1.out.cell 1
  have x2 : u2.cell? ⟨u1.heap.size, 2, none⟩ = some (.int .i64 h1) := SC1.out.cell 2
  have x3 : u2.cell? ⟨u1.heap.size, 3, none⟩ = some (.int .i64 p1) := SC1.out.cell 3
  have x4 : u2.cell? ⟨u1.heap.size, 4, none⟩ = some (.string (bsL s1)) := SC1.out.cell 4
  have x5 : u2.cell? ⟨u1.heap.size, 5, none⟩ = some (.string (bsL d1)) := SC1.out.cell 5
  have x6 : u2.cell? ⟨u1.heap.size, 6, none⟩ = some (.slice A1 n1 k1) := SC1.out.cell 6
  have K6 : Hid (Below w.heap.size w (u2.alloc (.cells #[.int .i64 c1, .int .i64 b1, .int .i64 h1, .int .i64 p1, .string (bsL s1), .string (bsL d1), .slice A2 n1 k2] 31)) ∧ Keep u1 (u2.alloc (.cells #[.int .i64 c1, .int .i64 b1, .int .i64 h1, .int .i64 p1, .string (bsL s1), .string (bsL d1), .slice A2 n1 k2] 31)).drew ∧ Keep u2 (u2.alloc (.cells #[.int .i64 c1, .int .i64 b1, .int .i64 h1, .int .i64 p1, .string (bsL s1), .string (bsL d1), .slice A2 n1 k2] 31)).drew) := ⟨BU2.out.alloc BU2.out.size _, keep_heap (KP2.out.trans (keep_of_below (bel_alloc _ _))) rfl, keep_heap (keep_of_below (bel_alloc _ _)) rfl⟩
  have KS0 : Hid (∀ q : World, Keep (u2.alloc (.cells #[.int .i64 c1, .int .i64 b1, .int .i64 h1, .int .i64 p1, .string (bsL s1), .string (bsL d1), .slice A2 n1 k2] 31)).drew q → (q.cell? ⟨u1.heap.size, 0, none⟩ = some (.int .i64 c1) ∧ q.cell? ⟨u1.heap.size, 1, none⟩ = some (.int .i64 b1) ∧ q.cell? ⟨u1.heap.size, 2, none⟩ = some (.int .i64 h1) ∧ q.cell? ⟨u1.heap.size, 3, none⟩ = some (.int .i64 p1) ∧ q.cell? ⟨u1.heap.size, 4, none⟩ = some (.string (bsL s1)) ∧ q.cell? ⟨u1.heap.size, 5, none⟩ = some (.string (bsL d1)) ∧ q.cell? ⟨u1.heap.size, 6, none⟩ = some (.slice A1 n1 k1) ∧ q.cell? ⟨u2.heap.size, 0, none⟩ = some (.int .i64 c1) ∧ q.cell? ⟨u2.heap.size, 1, none⟩ = some (.int .i64 b1) ∧ q.cell? ⟨u2.heap.size, 2, none⟩ = some (.int .i64 h1) ∧ q.cell? ⟨u2.heap.size, 3, none⟩ = some (.int .i64 p1) ∧ q.cell? ⟨u2.heap.size, 4, none⟩ = some (.string (bsL s1)) ∧ q.cell? ⟨u2.heap.size, 5, none⟩ = some (.string (bsL d1)) ∧ q.cell? ⟨u2.heap.size, 6, none⟩ = some (.slice A2 n1 k2))) := fun q kq => by
    have kx : Keep u2 q := K6.out.2.2.trans kq
    have ky : Keep (u2.alloc (.cells #[.int .i64 c1, .int .i64 b1, .int .i64 h1, .int .i64 p1, .string (bsL s1), .string (bsL d1), .slice A2 n1 k2] 31)) q := fun a v e => kq a v e
    have nb := Blk.new u2 31 #[.int .i64 c1, .int .i64 b1, .int .i64 h1, .int .i64 p1, .string (bsL s1), .string (bsL d1), .slice A2 n1 k2]
    exact ⟨kx _ _ x0, kx _ _ x1, kx _ _ x2, kx _ _ x3, kx _ _ x4, kx _ _ x5, kx _ _ x6, ky _ _ (nb.cell 0), ky _ _ (nb.cell 1), ky _ _ (nb.cell 2), ky _ _ (nb.cell 3), ky _ _ (nb.cell 4), ky _ _ (nb.cell 5), ky _ _ (nb.cell 6)⟩
  go_wp2_with fail
  go_region_held3 (fun w' => w'.cell? ⟨u1.heap.size, 0, none⟩ = some (.int .i64 c1) ∧ w'.cell? ⟨u1.heap.size, 1, none⟩ = some (.int .i64 b1) ∧ w'.cell? ⟨u1.heap.size, 2, none⟩ = some (.int .i64 h1) ∧ w'.cell? ⟨u1.heap.size, 3, none⟩ = some (.int .i64 p1) ∧ w'.cell? ⟨u1.heap.size, 4, none⟩ = some (.string (bsL s1)) ∧ w'.cell? ⟨u1.heap.size, 5, none⟩ = some (.string (bsL d1)) ∧ w'.cell? ⟨u1.heap.size, 6, none⟩ = some (.slice A1 n1 k1) ∧ w'.cell? ⟨u2.heap.size, 0, none⟩ = some (.int .i64 c1) ∧ w'.cell? ⟨u2.heap.size, 1, none⟩ = some (.int .i64 b1) ∧ w'.cell? ⟨u2.heap.size, 2, none⟩ = some (.int .i64 h1) ∧ w'.cell? ⟨u2.heap.size, 3, none⟩ = some (.int .i64 p1) ∧ w'.cell? ⟨u2.heap.size, 4, none⟩ = some (.string (bsL s1)) ∧ w'.cell? ⟨u2.heap.size, 5, none⟩ = some (.string (bsL d1)) ∧ w'.cell? ⟨u2.heap.size, 6, none⟩ = some (.slice A2 n1 k2)) (first | go_keep | exact KQ5.out | exact KQ4.out | exact KQ3.out | exact KQ2.out | exact KQ1.out) (first
    | (go_simp; go_at_call 12; refine (ref_any _ _ ⟨c1, b1, h1, p1, s1, d1, C1⟩ (HX1.out _ K6.out.2.1) hn1.out).mono ?_; rintro e q1 ⟨y1, rfl, fy, cc1⟩; have HY : Hid (HdAt q1 y1 ⟨c1, b1, h1, p1, s1, d1, C1⟩) := fy; have HW1 : Hid (Keep (u2.alloc (.cells #[.int .i64 c1, .int .i64 b1, .int .i64 h1, .int .i64 p1, .string (bsL s1), .string (bsL d1), .slice A2 n1 k2] 31)).drew q1) := keep_of_below cc1; have KQ1 : Hid (_) := KS0.out q1 HW1.out; have W1 : Hid (Below w.heap.size w q1) := bel_trans K6.out.1 ⟨cc1.os, cc1.tape, cc1.output, cc1.size, cc1.block⟩; clear fy cc1)
    | (go_simp; go_at_call 11; refine (equal_any _ _ _ ⟨c1, b1, h1, p1, s1, d1, C1⟩ HY.out (HX2.out _ (K6.out.2.2.trans HW1.out)) hn2.out).mono ?_; rintro e q2 ⟨rfl, cc2⟩; have HW2 : Hid (Keep (u2.alloc (.cells #[.int .i64 c1, .int .i64 b1, .int .i64 h1, .int .i64 p1, .string (bsL s1), .string (bsL d1), .slice A2 n1 k2] 31)).drew q2) := HW1.out.trans (keep_of_below cc2); have KQ2 : Hid (_) := KS0.out q2 HW2.out; have W2 : Hid (Below w.heap.size w q2) := bel_trans W1.out cc2; clear cc2)
    | (go_simp; go_at_call 13; refine (piece_any _ _ ⟨c1, b1, h1, p1, s1, d1, C1⟩ (HX1.out _ (K6.out.2.1.trans HW2.out)) hn2.out hn3.out).mono ?_; rintro e q3 ⟨B3, rfl, hB, cc3⟩; obtain rfl : PB = B3 := Bool.eq_iff_iff.2 (HP.out.trans hB.symm); have HW3 : Hid (Keep (u2.alloc (.cells #[.int .i64 c1, .int .i64 b1, .int .i64 h1, .int .i64 p1, .string (bsL s1), .string (bsL d1), .slice A2 n1 k2] 31)).drew q3) := HW2.out.trans (keep_of_below cc3); have KQ3 : Hid (_) := KS0.out q3 HW3.out; have W3 : Hid (Below w.heap.size w q3) := bel_trans W2.out cc3; clear cc3 hB)
    | (go_simp; go_at_call 14; refine (rpiece_any _ _ ⟨c1, b1, h1, p1, s1, d1, C1⟩ (HX2.out _ (K6.out.2.2.trans HW3.out)) hn2.out).mono ?_; rintro e q4 ⟨B4, rfl, hB, cc4⟩; obtain rfl : PB = B4 := Bool.eq_iff_iff.2 (HP.out.trans hB.symm); have HW4 : Hid (Keep (u2.alloc (.cells #[.int .i64 c1, .int .i64 b1, .int .i64 h1, .int .i64 p1, .string (bsL s1), .string (bsL d1), .slice A2 n1 k2] 31)).drew q4) := HW3.out.trans (keep_of_below cc4); have KQ4 : Hid (_) := KS0.out q4 HW4.out; have W4 : Hid (Below w.heap.size w q4) := bel_trans W3.out cc4; clear cc4 hB)
    | (go_simp; go_at_call 8; refine (awake_any _).mono ?_; rintro e q5 ⟨rfl, cc5⟩; have KQ5 : Hid (_) := KS0.out q5 (HW4.out.trans (keep_of_below cc5)); have W5 : Hid (Below w.heap.size w q5) := bel_trans W4.out cc5; clear cc5))
  all_goals go_wp2_with fail
  all_goals go_ret
  all_goals exact ⟨rfl, W5.out⟩

/-! ### The row -/
theorem laidOut : laidOutB Try.prog = true := by kernel_rfl
set_option maxRecDepth 100000 in
theorem lifted (os : Os) (started : os.Started) (H : Type) (enc : TypeId × Value → H) :
    ReturnsInHanded {} Try.checked os 3 .any (Rows.ipsixTakesSpec.pre6 enc Try.prog Try.f3 Rows.ipsixTakesRow.domain false) (Rows.ipsixTakesSpec.post enc Try.prog Try.f3 false true false false) := by
  refine returnsInHanded_of_change (C := Try.checked) own started (by kernel_rfl) Try.func3
    (ChangeSpec.witness6 (enc := enc) (C := Try.checked) false ⟨#[], #[.string ⟨#[]⟩], []⟩ 8 (by kernel_rfl) (by kernel_rfl) (by kernel_rfl) (by kernel_rfl)) ?_
  intro W base args ds gs before hval0 hW hcnd _
  have hval : ∀ (j : Nat) t v, Try.f3.params[j]? = some t → args[j]? = some v → Value.okWide Try.prog W .any base t v := hval0
  have hW' := hW
  obtain ⟨p, q, hA0, hV, rfl, hfz, hnd⟩ := hW
  have hA : DataW.TrodAll enc Try.prog W 0 (fun _ => true) true Try.f3.params.toList args.toList ds p := hA0
  rw [Try.params3] at hA hval
  obtain ⟨v0, vs0, d0, ds0, p0, q0, hargs, rfl, rfl, h0, r0⟩ := trodAll_cons hA
  obtain ⟨rfl, rfl, rfl⟩ := trodAll_nil r0
  obtain rfl : args = #[v0] := by cases args; simp_all
  obtain ⟨rfl, rfl⟩ := trodVars_none hV
  obtain ⟨a0, rfl, rfl, rfl, w0⟩ := open_string Try.underlying9 (hval 0 9 v0 rfl rfl) h0
  clear hA0 hval0
  refine (walk a0 W w0).mono fun e W' ⟨he, bel⟩ => ?_
  subst he
  exact ⟨_, rfl, _, _, _, [], _, [], hW', trodAll_mk1 (shut_bool Try.underlying4 _), (trodAll_cons_mk (shut_string Try.underlying9 w0) trodAll_mk0), rfl, bel.frame _, fun h => by cases h⟩

theorem over : Rows.ipsixTakesRow.holds Try.pinned (OpenSpec.ofChange Rows.ipsixTakesSpec) :=
  OpenClaim.holds_of_wide 3 Try.f3 rfl rfl rfl rfl rfl rfl rfl ⟨rfl, rfl, rfl, rfl, rfl⟩ rfl rfl rfl rfl rfl (by kernel_rfl) Try.func3 (by kernel_rfl)
    (of_decide_eq_true (by kernel_rfl)) (by unfold Func.isWrapper; first | (rw [if_pos (by decide +kernel)]; kernel_rfl) | (rw [if_neg (by decide +kernel)]; exact ⟨rfl, rfl⟩))
    (fun os started H enc _ => lifted os started H enc)

theorem proved : Rows.IpsixTakesSaid := over
end Go.Proofs.Ytjbpbahaekbmlaa.ipsixTakes
namespace Go.Proofs.Ytjbpbahaekbmlaa
theorem ipsixTakes_holds : Rows.IpsixTakesSaid := ipsixTakes.proved
#print axioms ipsixTakes_holds
end Go.Proofs.Ytjbpbahaekbmlaa
