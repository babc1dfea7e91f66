/-
  For any bytes, at most 4096: what is taken is written as it stood there, up to the length; or nothing is told of it. No condition.
-/
import Derived.Test.YtjbpbahaekbmlaaRows
import Derived.Test.YtjbpbahaekbmlaaIp6Awake
import Derived.Test.YtjbpbahaekbmlaaIp6Eq
import Derived.WalkKit
import Derived.ProofKit
import Derived.OpenShut
import Derived.ShutString
import Derived.ChangeOld
import Derived.ChangeMaps5
import Derived.Below
import Derived.Carry
namespace Go.Proofs.Ytjbpbahaekbmlaa.ipsixBack
open Oc Ip6 Go.Deep
open Go.ChangeShapes Go.WideShapes Go.ChangeAt Go.RowKit Go.ChangeMaps
set_option linter.unusedVariables false

theorem own : ownKnob Try.prog.godebug = none := by kernel_rfl

set_option maxHeartbeats 3200000 in
theorem walk (s : ByteArray) (w : World) (ws : s.size ≤ maxLen) :
    Calls Try.prog 6 #[.string s] w fun e w' => e = .returned (.bool true) ∧ Below w.heap.size w w' := by
  obtain ⟨l, rfl⟩ : ∃ l, s = bsL l := ⟨_, bsL_of s⟩
  rw [bsL_size] at ws
  by_cases h : 4096 < l.length
  · go_enter Try.func6, Try.ntmps6
    go_wp2_with fail
    refine (awake_any _).mono ?_
    rintro e u9 ⟨rfl, b9⟩
    go_wp2_with fail
    go_ret
    exact ⟨rfl, b9⟩
  by_cases he : takeE l = 0
  rotate_left
  · have HE : Hid (takeE l ≠ 0) := he
    clear he
    go_enter Try.func6, Try.ntmps6
    go_wp2_with fail
    refine (ptake_any _ (l) (by omega)).mono ?_
    rintro e u1 ⟨c1, b1, h1, p1, s1, d1, C1, A1, n1, k1, r1, E1, rfl, hq, hC, bb⟩
    have HQ1 : Hid (hdOf (l) = ⟨c1, b1, h1, p1, s1, d1, C1⟩ ∧ bodyOf (l) = r1 ∧ takeE (l) = E1 ∧ C1.length = n1) := hq
    have HX1 : Hid (∀ w' : World, Keep u1 w' → HdAt w' (.agg #[.int .i64 c1, .int .i64 b1, .int .i64 h1, .int .i64 p1, .string (bsL s1), .string (bsL d1), .slice A1 n1 k1]) ⟨c1, b1, h1, p1, s1, d1, C1⟩) := fun w' k => ⟨_, rfl, by have e := hq.2.2.2; subst e; exact hC.keep k⟩
    have BU1 : Hid (Below w.heap.size w u1) := bb
    clear hq hC bb
    obtain ⟨z1, z2⟩ := take_err (l := l) HE.out
    obtain ⟨rfl, rfl, rfl, rfl, rfl, rfl, rfl⟩ := Hd.mk.inj (HQ1.out.1.symm.trans z1)
    obtain rfl := HQ1.out.2.1.symm.trans z2
    obtain rfl := HQ1.out.2.2.2
    have q1 : ((E1 : Int) != 0) = true := by have e := HQ1.out.2.2.1; have e2 := HE.out; rw [e] at e2; simp; omega
    clear z1 z2
    have BB1 : Hid (Below w.heap.size w (u1.alloc (.cells #[.int .i64 0, .int .i64 0, .int .i64 0, .int .i64 0, .string (bsL []), .string (bsL []), .slice A1 ([] : List Ex).length k1] 25))) := BU1.out.alloc BU1.out.size _
    have KP : Hid (Keep u1 (u1.alloc (.cells #[.int .i64 0, .int .i64 0, .int .i64 0, .int .i64 0, .string (bsL []), .string (bsL []), .slice A1 ([] : List Ex).length k1] 25))) := keep_of_below (bel_alloc _ _)
    change Hid (∀ w' : World, Keep u1 w' → HdAt w' (.agg #[.int .i64 0, .int .i64 0, .int .i64 0, .int .i64 0, .string (bsL []), .string (bsL []), .slice A1 ([] : List Ex).length k1]) zeroHd) at HX1
    simp only [show bsL [] = ⟨#[]⟩ from rfl, List.length_nil] at HX1 BB1 KP ⊢
    go_wp2_with fail
    refine (ref_any _ _ zeroHd (HX1.out _ KP.out) (by decide)).mono ?_
    rintro e q1 ⟨y1, rfl, fy, c1⟩
    have HY : Hid (HdAt q1 y1 zeroHd) := fy
    clear fy
    go_wp2_with fail
    refine (equal_any _ _ _ zeroHd HY.out (zero_at _) (by decide)).mono ?_
    rintro e q2 ⟨rfl, c2⟩
    go_wp2_with fail
    refine (awake_any _).mono ?_
    rintro e u9 ⟨rfl, b9⟩
    go_wp2_with fail
    go_ret
    exact ⟨rfl, bel_trans (bel_trans (bel_trans BB1.out c1) c2) b9⟩
  have HO : Hid (RightP (hdOf l) ∧ putL (hdOf l) (bodyOf l) = l.take (40 + lenL l) ∧ (chainL (hdOf l).ch (hdOf l).pro).length + (bodyOf l).length = lenL l ∧ 40 + lenL l ≤ l.length ∧ lenL l ≤ 65535) := right_of he
  have HE : Hid (takeE l = 0) := he
  clear he
  go_enter Try.func6, Try.ntmps6
  go_wp2_with fail
  refine (ptake_any _ (l) (by omega)).mono ?_
  rintro e u1 ⟨c1, b1, h1, p1, s1, d1, C1, A1, n1, k1, r1, E1, rfl, hq, hC, bb⟩
  have HQ1 : Hid (hdOf (l) = ⟨c1, b1, h1, p1, s1, d1, C1⟩ ∧ bodyOf (l) = r1 ∧ takeE (l) = E1 ∧ C1.length = n1) := hq
  have HX1 : Hid (∀ w' : World, Keep u1 w' → HdAt w' (.agg #[.int .i64 c1, .int .i64 b1, .int .i64 h1, .int .i64 p1, .string (bsL s1), .string (bsL d1), .slice A1 n1 k1]) ⟨c1, b1, h1, p1, s1, d1, C1⟩) := fun w' k => ⟨_, rfl, by have e := hq.2.2.2; subst e; exact hC.keep k⟩
  have BU1 : Hid (Below w.heap.size w u1) := bb
  clear hq hC bb
  obtain rfl := HQ1.out.2.2.1.symm.trans HE.out
  have HO2 := HO.out
  rw [HQ1.out.1, HQ1.out.2.1] at HO2
  have HR : Hid (RightP ⟨c1, b1, h1, p1, s1, d1, C1⟩) := HO2.1
  obtain ⟨r1, r2, r3, r4, _⟩ := HR.out
  simp only at r1 r2 r3 r4
  obtain ⟨Cl, rfl⟩ : ∃ N : Nat, c1 = N := ⟨c1.toNat, by omega⟩
  obtain ⟨Lb, rfl⟩ : ∃ N : Nat, b1 = N := ⟨b1.toNat, by omega⟩
  obtain ⟨Hp, rfl⟩ : ∃ N : Nat, h1 = N := ⟨h1.toNat, by omega⟩
  obtain ⟨Pr, rfl⟩ : ∃ N : Nat, p1 = N := ⟨p1.toNat, by omega⟩
  clear r1 r2 r3 r4
  have PQ : Hid (putL ⟨Cl, Lb, Hp, Pr, s1, d1, C1⟩ r1 = l.take (40 + lenL l) ∧ (chainL C1 Pr).length + r1.length ≤ 65535 ∧ 40 + lenL l ≤ l.length) := ⟨HO2.2.1, by have h3 := HO2.2.2.1; have h5 := HO2.2.2.2.2; simp only at h3; omega, HO2.2.2.2.1⟩
  have r1l : r1.length ≤ 1152921504606846976 := by have := PQ.out.2.1; omega
  have C8 : Hid (C1.length ≤ 8) := HR.out.2.2.2.2.2.2.2.1
  clear HO2
  have PT : Hid (∀ u : World, Keep u1 u → Calls Try.prog 16 #[.agg #[.int .i64 (Cl : Int), .int .i64 (Lb : Int), .int .i64 (Hp : Int), .int .i64 (Pr : Int), .string (bsL s1), .string (bsL d1), .slice A1 n1 k1], .string (bsL r1)] u (Wrote u (l.take (40 + lenL l)) 0)) := fun u kp => by
    rw [← PQ.out.1]
    exact (pput_two u Cl Lb Hp Pr s1 d1 r1 C1 A1 n1 k1 (HX1.out u kp) HR.out r1l).mono fun e w' h => h.1 PQ.out.2.1
  have TL : (l.take (40 + lenL l)).length ≤ l.length := by simp; omega
  have TT : l.take (l.take (40 + lenL l)).length = l.take (40 + lenL l) := by
    rw [List.length_take, Nat.min_eq_left PQ.out.2.2]
  generalize l.take (40 + lenL l) = Tl at PT TL TT
  have TL2 : (Tl.length : Int) ≤ l.length := by omega
  have BB1 : Hid (Below w.heap.size w (u1.alloc (.cells #[.int .i64 (Cl : Int), .int .i64 (Lb : Int), .int .i64 (Hp : Int), .int .i64 (Pr : Int), .string (bsL s1), .string (bsL d1), .slice A1 n1 k1] 25))) := BU1.out.alloc BU1.out.size _
  have SB1 : Hid (Blk (u1.alloc (.cells #[.int .i64 (Cl : Int), .int .i64 (Lb : Int), .int .i64 (Hp : Int), .int .i64 (Pr : Int), .string (bsL s1), .string (bsL d1), .slice A1 n1 k1] 25)) u1.heap.size 25 #[.int .i64 (Cl : Int), .int .i64 (Lb : Int), .int .i64 (Hp : Int), .int .i64 (Pr : Int), .string (bsL s1), .string (bsL d1), .slice A1 n1 k1]) := Blk.new _ _ _
  have KP : Hid (Keep u1 (u1.alloc (.cells #[.int .i64 (Cl : Int), .int .i64 (Lb : Int), .int .i64 (Hp : Int), .int .i64 (Pr : Int), .string (bsL s1), .string (bsL d1), .slice A1 n1 k1] 25))) := keep_of_below (bel_alloc _ _)
  go_wp2_with fail
  refine (PT.out _ KP.out).mono ?_
  rintro e u2 ⟨rfl, b2⟩
  have SC1 : Hid (Blk u2 u1.heap.size 25 #[.int .i64 (Cl : Int), .int .i64 (Lb : Int), .int .i64 (Hp : Int), .int .i64 (Pr : Int), .string (bsL s1), .string (bsL d1), .slice A1 n1 k1]) := SB1.out.since b2
  have BU2 : Hid (Below w.heap.size w u2) := bel_trans BB1.out b2
  have KP2 : Hid (Keep u1 u2) := KP.out.trans (keep_of_below b2)
  clear b2
  have x0 : u2.cell? ⟨u1.heap.size, 0, none⟩ = some (.int .i64 (Cl : Int)) := SC1.out.cell 0
  have x1 : u2.cell? ⟨u1.heap.size, 1, none⟩ = some (.int .i64 (Lb : Int)) := SC1.out.cell 1
  have x2 : u2.cell? ⟨u1.heap.size, 2, none⟩ = some (.int .i64 (Hp : Int)) := SC1.out.cell 2
  have x3 : u2.cell? ⟨u1.heap.size, 3, none⟩ = some (.int .i64 (Pr : Int)) := SC1.out.cell 3
  have x4 : u2.cell? ⟨u1.heap.size, 4, none⟩ = some (.string (bsL s1)) := SC1.out.cell 4
  have x5 : u2.cell? ⟨u1.heap.size, 5, none⟩ = some (.string (bsL d1)) := SC1.out.cell 5
  have x6 : u2.cell? ⟨u1.heap.size, 6, none⟩ = some (.slice A1 n1 k1) := SC1.out.cell 6
  go_wp2_with fail
  refine (right_any _ _ ⟨Cl, Lb, Hp, Pr, s1, d1, C1⟩ (HX1.out _ KP2.out) (by show C1.length ≤ 9223372036854775807; have := C8.out; omega)).mono ?_
  rintro e u3 ⟨B, rfl, hB, b3⟩
  have eB : B = true := hB.2 HR.out
  subst eB
  clear hB
  go_wp2_with fail
  refine (awake_any _).mono ?_
  rintro e u9 ⟨rfl, b9⟩
  go_wp2_with fail
  go_ret
  exact ⟨rfl, bel_trans (bel_trans BU2.out b3) b9⟩

/-! ### The row -/
theorem laidOut : laidOutB Try.prog = true := by kernel_rfl
set_option maxRecDepth 100000 in
theorem lifted (os : Os) (started : os.Started) (H : Type) (enc : TypeId × Value → H) :
    ReturnsInHanded {} Try.checked os 6 .any (Rows.ipsixBackSpec.pre6 enc Try.prog Try.f6 Rows.ipsixBackRow.domain false) (Rows.ipsixBackSpec.post enc Try.prog Try.f6 false true false false) := by
  refine returnsInHanded_of_change (C := Try.checked) own started (by kernel_rfl) Try.func6
    (ChangeSpec.witness6 (enc := enc) (C := Try.checked) false ⟨#[], #[.string ⟨#[]⟩], []⟩ 8 (by kernel_rfl) (by kernel_rfl) (by kernel_rfl) (by kernel_rfl)) ?_
  intro W base args ds gs before hval0 hW hcnd _
  have hval : ∀ (j : Nat) t v, Try.f6.params[j]? = some t → args[j]? = some v → Value.okWide Try.prog W .any base t v := hval0
  have hW' := hW
  obtain ⟨p, q, hA0, hV, rfl, hfz, hnd⟩ := hW
  have hA : DataW.TrodAll enc Try.prog W 0 (fun _ => true) true Try.f6.params.toList args.toList ds p := hA0
  rw [Try.params6] at hA hval
  obtain ⟨v0, vs0, d0, ds0, p0, q0, hargs, rfl, rfl, h0, r0⟩ := trodAll_cons hA
  obtain ⟨rfl, rfl, rfl⟩ := trodAll_nil r0
  obtain rfl : args = #[v0] := by cases args; simp_all
  obtain ⟨rfl, rfl⟩ := trodVars_none hV
  obtain ⟨a0, rfl, rfl, rfl, w0⟩ := open_string Try.underlying9 (hval 0 9 v0 rfl rfl) h0
  clear hA0 hval0
  refine (walk a0 W w0).mono fun e W' ⟨he, bel⟩ => ?_
  subst he
  exact ⟨_, rfl, _, _, _, [], _, [], hW', trodAll_mk1 (shut_bool Try.underlying4 _), (trodAll_cons_mk (shut_string Try.underlying9 w0) trodAll_mk0), rfl, bel.frame _, fun h => by cases h⟩

theorem over : Rows.ipsixBackRow.holds Try.pinned (OpenSpec.ofChange Rows.ipsixBackSpec) :=
  OpenClaim.holds_of_wide 6 Try.f6 rfl rfl rfl rfl rfl rfl rfl ⟨rfl, rfl, rfl, rfl, rfl⟩ rfl rfl rfl rfl rfl (by kernel_rfl) Try.func6 (by kernel_rfl)
    (of_decide_eq_true (by kernel_rfl)) (by unfold Func.isWrapper; first | (rw [if_pos (by decide +kernel)]; kernel_rfl) | (rw [if_neg (by decide +kernel)]; exact ⟨rfl, rfl⟩))
    (fun os started H enc _ => lifted os started H enc)

theorem proved : Rows.IpsixBackSaid := over
end Go.Proofs.Ytjbpbahaekbmlaa.ipsixBack
namespace Go.Proofs.Ytjbpbahaekbmlaa
theorem ipsixBack_holds : Rows.IpsixBackSaid := ipsixBack.proved
#print axioms ipsixBack_holds
end Go.Proofs.Ytjbpbahaekbmlaa
