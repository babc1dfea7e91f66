/-
  For any seed, key and numbers a cell is one of so many, a sign 1 or -1, a level at most the most, and seeds that are alike modulo 2^61 - 1 make like sums below it; the table math/bits.deBruijn64tab is as the text of the library lays it (the card ties it).
-/
import Derived.Test.YtngejbmhoigceaaDoorRows
import Derived.Test.YtngejbmhoigceaaDoorCards
import Derived.Test.YtngejbmhoigceaaDoorTie
import Derived.Test.YtngejbmhoigceaaDoorTab
import Derived.WalkKit
import Derived.ProofKit
import Derived.OpenShut
import Derived.ChangeMaps5
import Derived.LaidMore
import Derived.Stop.Joined
import Derived.SevenTiedAt
namespace Go.Proofs.YtngejbmhoigceaaDoor.hashWithin
open Fm
open Go.ChangeShapes Go.WideShapes Go.ChangeAt Go.RowKit Go.ChangeMaps
set_option linter.unusedVariables false

theorem own : ownKnob Tryd.prog.godebug = none := by kernel_rfl

set_option maxHeartbeats 4000000 in
theorem walk (a0 : Int) (s : ByteArray) (n m : Int) (w0 : (Lit.int .u64 a0).wf = true) (w1 : s.size ≤ maxLen) (w2 : (Lit.int .i64 n).wf = true) (w3 : (Lit.int .i64 m).wf = true) (w : World) (hT : TabAt 0 Lib.deBruijn64tab w) :
    Calls Tryd.prog 3 #[.int .u64 a0, .string s, .int .i64 n, .int .i64 m] w fun e w' => e = .returned (.bool true) ∧ Grown w w' := by
  have u0 : U a0 := bounds_u64 w0
  obtain ⟨n0, n1⟩ := bounds_i64 w2
  obtain ⟨m0, m1⟩ := bounds_i64 w3
  clear w0 w1 w2 w3
  by_cases h : 1024 < s.size
  · go_enter Tryd.func3, Tryd.ntmps3
    go_wp2_with fail
    refine (awake_any _).mono ?_
    rintro e w' ⟨rfl, rfl⟩
    go_wp2_with fail
    go_ret
    exact ⟨rfl, Grown.refl _⟩
  have hs1 : s.size ≤ 1152921504606846976 := by omega
  have c0 := cellF_nn a0 s n
  have l0 := levelF_nn a0 s m
  have x1 := sumF_lt a0 s
  have e1 : (sumF (oF a0) s == sumF a0 s) = true := by rw [sumF_oF]; exact beq_self_eq_true _
  have K : ∀ (hc : 0 < n ∧ cellF a0 s n < n ∨ n < 1 ∧ cellF a0 s n = 0) (hg : signF a0 s = 1 ∨ signF a0 s = -1) (hl : 0 ≤ m ∧ levelF a0 s m ≤ m ∨ m < 0 ∧ levelF a0 s m = 0), Calls Tryd.prog 3 #[.int .u64 a0, .string s, .int .i64 n, .int .i64 m] w fun e w' => e = .returned (.bool true) ∧ Grown w w' := by
    intro hc hg hl
    rcases hc with ⟨hc1, hc2⟩ | ⟨hc1, hc2⟩ <;> rcases hg with hg | hg <;> rcases hl with ⟨hl1, hl2⟩ | ⟨hl1, hl2⟩
    all_goals go_enter Tryd.func3, Tryd.ntmps3
    all_goals go_wp2_with fail
    all_goals (refine (cell_any _ _ _ _ u0 hs1 n0 n1).mono ?_; rintro e w' ⟨rfl, rfl⟩; go_wp2_with fail)
    all_goals (refine (sign_any _ _ _ u0 hs1).mono ?_; rintro e w' ⟨rfl, rfl⟩; go_wp2_with fail)
    all_goals (refine (level_any _ _ _ _ u0 hs1 m0 m1 hT).mono ?_; rintro e w' ⟨rfl, rfl⟩; go_wp2_with fail)
    all_goals (refine (rof_any _ _ u0).mono ?_; rintro e w' ⟨rfl, rfl⟩; go_wp2_with fail)
    all_goals (refine (sum_any _ _ _ (oF_U _) hs1).mono ?_; rintro e w' ⟨rfl, rfl⟩; go_wp2_with fail)
    all_goals (refine (sum_any _ _ _ u0 hs1).mono ?_; rintro e w' ⟨rfl, rfl⟩; go_wp2_with fail)
    all_goals (refine (sum_any _ _ _ u0 hs1).mono ?_; rintro e w' ⟨rfl, rfl⟩; go_wp2_with fail)
    all_goals (refine (awake_any _).mono ?_; rintro e w' ⟨rfl, rfl⟩; go_wp2_with fail)
    all_goals go_ret
    all_goals exact ⟨rfl, Grown.refl _⟩
  refine K ?_ (signF_is a0 s) ?_
  · by_cases hn : 0 < n
    · exact Or.inl ⟨hn, cellF_lt a0 s n hn⟩
    · exact Or.inr ⟨by omega, cellF_none a0 s n (by omega)⟩
  · have := levelF_le a0 s m
    omega

/-! ### The row -/
theorem door_met (os : Os) (args : Array Value) : laidMetH Tryd.prog Rows.hashWithinRow.laid ((World.doorLaid Tryd.prog 400 os).forCall (fun _ _ => 0) ⟨#[], args, []⟩).memory :=
  laidMetH_of_parts3 (fuel := 8) (laidMet_of_run' 8 (by kernel_rfl) (by kernel_rfl)) (by kernel_rfl) (by kernel_rfl)
set_option maxRecDepth 100000 in
theorem lifted (os : Os) (started : os.Started) (H : Type) (enc : TypeId × Value → H) :
    ReturnsInHanded {} Tryd.checked os 3 .any (fun w args => (Rows.hashWithinSpec.pre enc Tryd.prog Tryd.f3 [] false w args ∧ laidMetH Tryd.prog Rows.hashWithinRow.laid w) ∧ sizedMet enc Tryd.prog Tryd.f3 (OpenSpec.ofChange Rows.hashWithinSpec) false w args) (Rows.hashWithinSpec.post enc Tryd.prog Tryd.f3 false true false false) := by
  refine returnsInHanded_of_change_and (C := Tryd.checked) (X := fun w _ => laidMetH Tryd.prog Rows.hashWithinRow.laid w) (fun _ _ _ hh h => h.of_heap hh) own started (by kernel_rfl) Tryd.func3
    (ChangeSpec.witness_shaped (enc := enc) (C := Tryd.checked) (os := os) (X := fun w _ => laidMetH Tryd.prog Rows.hashWithinRow.laid w) false (World.doorLaid Tryd.prog 400 os) #[.int .u64 0, .string ⟨#[]⟩, .int .i64 0, .int .i64 0] 8 rfl (World.shaped_of_RefB (by kernel_rfl) (by kernel_rfl)) (by kernel_rfl) (by kernel_rfl) (by kernel_rfl) (door_met os _)) ?_
  intro W base args ds gs before hval0 hW _ _ hL _
  have hval : ∀ (j : Nat) t v, Tryd.f3.params[j]? = some t → args[j]? = some v → Value.okWide Tryd.prog W .any base t v := hval0
  have hW' := hW
  obtain ⟨p, q, hA0, hV, rfl, hfz, hnd⟩ := hW
  have hA : DataW.TrodAll enc Tryd.prog W 0 (fun _ => true) true Tryd.f3.params.toList args.toList ds p := hA0
  rw [Tryd.params3] at hA hval
  obtain ⟨v0, vs0, d0, ds0, p0, q0, hargs, rfl, rfl, h0, r0⟩ := trodAll_cons hA
  obtain ⟨v1, vs1, d1, ds1, p1, q1, rfl, rfl, rfl, h1, r1⟩ := trodAll_cons r0
  obtain ⟨v2, vs2, d2, ds2, p2, q2, rfl, rfl, rfl, h2, r2⟩ := trodAll_cons r1
  obtain ⟨v3, vs3, d3, ds3, p3, q3, rfl, rfl, rfl, h3, r3⟩ := trodAll_cons r2
  obtain ⟨rfl, rfl, rfl⟩ := trodAll_nil r3
  obtain rfl : args = #[v0, v1, v2, v3] := by cases args; simp_all
  obtain ⟨rfl, rfl⟩ := trodVars_none hV
  obtain ⟨a0, rfl, rfl, rfl, w0⟩ := open_int Tryd.underlying22 (hval 0 22 v0 rfl rfl) h0
  obtain ⟨a1, rfl, rfl, rfl, w1⟩ := open_string Tryd.underlying9 (hval 1 9 v1 rfl rfl) h1
  obtain ⟨a2, rfl, rfl, rfl, w2⟩ := open_int Tryd.underlying3 (hval 2 3 v2 rfl rfl) h2
  obtain ⟨a3, rfl, rfl, rfl, w3⟩ := open_int Tryd.underlying3 (hval 3 3 v3 rfl rfl) h3
  have hT := tab_of hL
  clear hA0 hval0
  simp only [List.append_nil] at hW'
  refine (walk a0 a1 a2 a3 w0 w1 w2 w3 W hT).mono fun e W' ⟨he, hg⟩ => ?_
  subst he
  exact ⟨_, rfl, post_of_same (pa := []) (pv := []) hW' (fun _ _ _ => (trodAll_cons_mk (shut_bool Tryd.underlying4 _) trodAll_mk0)) (fun sp _ => (trodAll_cons_mk (shut_int Tryd.underlying22 w0) (trodAll_cons_mk (shut_string Tryd.underlying9 w1) (trodAll_cons_mk (shut_int Tryd.underlying3 w2) (trodAll_cons_mk (shut_int Tryd.underlying3 w3) trodAll_mk0))))) (fun _ _ => rfl) rfl
    (hg.frame _) hg.2.1 (ok_one (by kernel_rfl) rfl (okWide_bool_mk Tryd.underlying4 _))⟩

theorem over : Rows.hashWithinRow.holds Tryd.pinned (OpenSpec.ofChange Rows.hashWithinSpec) :=
  OpenClaim.holds_of_wide 3 Tryd.f3 rfl rfl rfl rfl rfl rfl rfl ⟨rfl, rfl, rfl, rfl, rfl⟩ rfl rfl rfl rfl rfl (by kernel_rfl) Tryd.func3 (by kernel_rfl)
    (of_decide_eq_true (by kernel_rfl)) (by unfold Func.isWrapper; first | (rw [if_pos (by decide +kernel)]; kernel_rfl) | (rw [if_neg (by decide +kernel)]; exact ⟨rfl, rfl⟩))
    (fun os started H enc _ => lifted os started H enc)

/-- The card: the row, its listed variable tied to the text of the program. -/
theorem proved : Rows.HashWithinCardSaid :=
  Claim7.holds_tied_plain_at .later [] [.data] true (true, "b58f9ff294d30b11485d45b8bce46032d8d95d38f2a95552078c3f7e883a2ef8") false
    over (fun _ h => by cases h) (by kernel_rfl) (fun _ h => by cases h) hashWithin_row_tie rfl ⟨rfl, rfl⟩ (by kernel_rfl) rfl
    (fun f fn hf hfn => by
      obtain rfl : f = 3 := Option.some.inj ((show Tryd.prog.funcNamed "rillmeter/rillmeterlaw02.HashWithin" = some 3 by kernel_rfl).symm.trans hf) |>.symm
      obtain rfl : fn = Tryd.f3 := (Option.some.inj (Tryd.func3.symm.trans hfn)).symm
      exact ⟨by kernel_rfl, fun j t ht => by
        rw [Tryd.params3] at ht
        have hm : t ∈ [22, 9, 3, 3] := by simpa using Array.mem_of_getElem? ht
        have hall : ([22, 9, 3, 3].all fun u => !Tryd.prog.wantsStandIn u) = true := by kernel_rfl
        exact (show Tryd.prog.wantsStandIn t = false by simpa using List.all_eq_true.1 hall t hm)⟩)
    (by kernel_rfl)
end Go.Proofs.YtngejbmhoigceaaDoor.hashWithin
namespace Go.Proofs.YtngejbmhoigceaaDoor
theorem hashWithin_holds : Rows.HashWithinCardSaid := hashWithin.proved
#print axioms hashWithin_holds
end Go.Proofs.YtngejbmhoigceaaDoor
