
/-
  How items are compared by the program (layer 14): cmp.Compare of ints and of strings, cmp.Or, standing.
-/
import Derived.Test.YtihealembikkiaaHevRef
import Derived.Test.YtihealembikkiaaHeldKit
import Derived.Test.YtihealembikkiaaHevHeap
namespace Go.Proofs.Ytihealembikkiaa.L14
open Go.RowKit Hv Go.Deep
set_option linter.unusedVariables false
set_option maxRecDepth 20000

/-- Which of two stands ahead, as a number. -/
def cmpI (x y : Int) : Int := if x < y then -1 else if y < x then 1 else 0
def cmpS (s t : ByteArray) : Int := if s.data.toList < t.data.toList then -1 else if t.data.toList < s.data.toList then 1 else 0
def orF (x y : Int) : Int := if x ≠ 0 then x else y
def stdF (x y : Itm) : Int := orF (cmpI y.c x.c) (cmpS x.k y.k)
theorem cmpS_refl (s : ByteArray) : cmpS s s = 0 := by
  unfold cmpS
  rw [if_neg (List.lt_irrefl _), if_neg (List.lt_irrefl _)]
theorem stdF_neg (x y : Itm) : stdF x y < 0 ↔ Ahead x y := by
  unfold stdF orF cmpI cmpS Ahead lessK
  constructor
  · intro h
    by_cases h1 : y.c < x.c
    · exact Or.inl h1
    · rw [if_neg h1] at h
      by_cases h2 : x.c < y.c
      · rw [if_pos h2] at h; simp at h
      · rw [if_neg h2] at h
        simp only [ne_eq, not_true_eq_false, if_false] at h
        by_cases h3 : x.k.data.toList < y.k.data.toList
        · exact Or.inr ⟨by omega, h3⟩
        · rw [if_neg h3] at h
          split at h <;> simp at h
  · rintro (h1 | ⟨h1, h2⟩)
    · have h3 : y.c < x.c := h1
      rw [if_pos h3]; simp
    · have h3 : ¬ y.c < x.c := by omega
      have h4 : ¬ x.c < y.c := by omega
      simp [h3, h4, h2]
theorem cmpI_anti (x y : Int) : cmpI x y = - cmpI y x := by
  unfold cmpI
  by_cases h1 : x < y
  · rw [if_pos h1, if_neg (by omega), if_pos h1]
  · by_cases h2 : y < x
    · rw [if_neg h1, if_pos h2, if_pos h2]; rfl
    · rw [if_neg h1, if_neg h2, if_neg h2, if_neg h1]; rfl
theorem cmpS_anti (s t : ByteArray) : cmpS s t = - cmpS t s := by
  unfold cmpS
  by_cases h1 : s.data.toList < t.data.toList
  · have h2 : ¬ t.data.toList < s.data.toList := fun h => List.lt_irrefl _ (List.lt_trans h h1)
    rw [if_pos h1, if_neg h2, if_pos h1]
  · by_cases h2 : t.data.toList < s.data.toList
    · rw [if_neg h1, if_pos h2, if_pos h2]; rfl
    · rw [if_neg h1, if_neg h2, if_neg h2, if_neg h1]; rfl
theorem stdF_anti (x y : Itm) : stdF x y = - stdF y x := by
  unfold stdF orF
  have e := cmpI_anti y.c x.c
  by_cases h : cmpI y.c x.c = 0
  · have h' : cmpI x.c y.c = 0 := by omega
    rw [if_neg (by simpa using h), if_neg (by simpa using h'), cmpS_anti]
  · have h' : cmpI x.c y.c ≠ 0 := by omega
    rw [if_pos h, if_pos h', e]
theorem stdF_pos (x y : Itm) : stdF x y > 0 ↔ Ahead y x := by
  rw [stdF_anti, ← stdF_neg]
  omega
theorem stdF_wf (x y : Itm) : -1 ≤ stdF x y ∧ stdF x y ≤ 1 := by
  unfold stdF orF cmpI cmpS
  repeat' split
  all_goals omega
set_option maxHeartbeats 800000 in
theorem ccmpI_any (w : World) (x y : Int) : Calls Try.prog 63 #[.int .i64 x, .int .i64 y] w fun e w' => e = .returned (.int .i64 (cmpI x y)) ∧ w' = w := by
  have q1 : (x == x) = true := by simp
  have q2 : (y == y) = true := by simp
  by_cases h1 : x < y
  · have E : Hid (cmpI x y = -1) := if_pos h1
    go_enter Try.func63, Try.ntmps63
    go_wp2
    go_ret
    exact ⟨by rw [E.out]; first | rfl | simp, rfl⟩
  · by_cases h2 : y < x
    · have E : Hid (cmpI x y = 1) := (if_neg h1).trans (if_pos h2)
      go_enter Try.func63, Try.ntmps63
      go_wp2
      go_ret
      exact ⟨by rw [E.out]; first | rfl | simp, rfl⟩
    · have E : Hid (cmpI x y = 0) := (if_neg h1).trans (if_neg h2)
      have h2' : ¬ x > y := h2
      go_enter Try.func63, Try.ntmps63
      go_wp2
      go_ret
      exact ⟨by rw [E.out]; first | rfl | simp, rfl⟩
set_option maxHeartbeats 800000 in
theorem ccmpS_any (w : World) (s t : ByteArray) : Calls Try.prog 64 #[.string s, .string t] w fun e w' => e = .returned (.int .i64 (cmpS s t)) ∧ w' = w := by
  have q1 : (s.toList == s.toList) = true := by simp
  have q2 : (t.toList == t.toList) = true := by simp
  have B1 : Op.bytesLess s.toList t.toList = decide (s.data.toList < t.data.toList) := by rw [less_eq, Lib.toList_data, Lib.toList_data]
  have B2 : Op.bytesLess t.toList s.toList = decide (t.data.toList < s.data.toList) := by rw [less_eq, Lib.toList_data, Lib.toList_data]
  by_cases h1 : s.data.toList < t.data.toList
  · have E : Hid (cmpS s t = -1) := if_pos h1
    rw [decide_eq_true h1] at B1
    clear B2 h1
    go_enter Try.func64, Try.ntmps64
    go_wp2
    go_ret
    exact ⟨by rw [E.out]; first | rfl | simp, rfl⟩
  · rw [decide_eq_false h1] at B1
    by_cases h2 : t.data.toList < s.data.toList
    · have E : Hid (cmpS s t = 1) := (if_neg h1).trans (if_pos h2)
      rw [decide_eq_true h2] at B2
      have q3 : (s.toList == t.toList) = false := by rw [str_eq]; exact decide_eq_false fun e => h1 (by subst e; exact h2)
      have q4 : (t.toList == s.toList) = false := by rw [str_eq]; exact decide_eq_false fun e => h1 (by subst e; exact h2)
      clear h1 h2
      go_enter Try.func64, Try.ntmps64
      go_wp2
      go_ret
      exact ⟨by rw [E.out]; first | rfl | simp, rfl⟩
    · have E : Hid (cmpS s t = 0) := (if_neg h1).trans (if_neg h2)
      rw [decide_eq_false h2] at B2
      obtain rfl : s = t := Classical.byContradiction fun e => (lessK_total e).elim h1 h2
      clear h1 h2
      go_enter Try.func64, Try.ntmps64
      go_wp2
      go_ret
      exact ⟨by rw [E.out]; first | rfl | simp, rfl⟩
/-- cmp.Or of two ints that lie side by side. -/
theorem cor_two (w : World) (b c : Nat) (x y : Int) (h0 : w.cell? ⟨b, 0, none⟩ = some (.int .i64 x)) (h1 : w.cell? ⟨b, 1, none⟩ = some (.int .i64 y)) : Calls Try.prog 62 #[.slice (some ⟨b, 0, none⟩) 2 c] w fun e w' => e = .returned (.int .i64 (orF x y)) ∧ w' = w := by
  by_cases hx : x = 0
  · by_cases hy : y = 0
    · have E : Hid ((orF x y) = 0) := (if_neg (by simpa using hx)).trans hy
      have q1 : (x == 0) = true := by simpa using hx
      have q2 : (y == 0) = true := by simpa using hy
      clear hx hy
      go_enter Try.func62, Try.ntmps62
      go_wp2
      refine wp_loop_rounds 3 ?_
      rw [rounds_succ]
      go_wp2
      rw [rounds_succ]
      go_wp2
      rw [rounds_succ]
      go_wp2
      go_ret
      exact ⟨by rw [E.out]; first | rfl | simp, rfl⟩
    · have E : Hid ((orF x y) = y) := if_neg (by simpa using hx)
      have q1 : (x == 0) = true := by simpa using hx
      have q2 : (y == 0) = false := by simpa using hy
      clear hx hy
      go_enter Try.func62, Try.ntmps62
      go_wp2
      refine wp_loop_rounds 3 ?_
      rw [rounds_succ]
      go_wp2
      rw [rounds_succ]
      go_wp2
      go_ret
      exact ⟨by rw [E.out]; first | rfl | simp, rfl⟩
  · have E : Hid ((orF x y) = x) := if_pos hx
    have q1 : (x == 0) = false := by simpa using hx
    clear hx
    go_enter Try.func62, Try.ntmps62
    go_wp2
    refine wp_loop_rounds 3 ?_
    rw [rounds_succ]
    go_wp2
    go_ret
    exact ⟨by rw [E.out]; first | rfl | simp, rfl⟩
end Go.Proofs.Ytihealembikkiaa.L14
