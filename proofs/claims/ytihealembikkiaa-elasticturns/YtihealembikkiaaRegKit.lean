
/-
  A drawn region by hand, a node a state: the region's predicate and the frame as letters. Nothing of one layer is in this text.
-/
import Derived.Test.YtihealembikkiaaHeldKit
import Derived.Deep.RegionHeld3
import Derived.WalkKit
import Derived.BigCall
namespace Go.Proofs.Ytihealembikkiaa
open Go.RowKit Go.Deep
set_option linter.unusedVariables false
set_option maxRecDepth 20000

theorem letterT {T : Nat → Array Bool → Act → World → Prop} {f : Nat} {l : Array Bool} {a : Act} {w : World} (h : ∀ T' : Nat → Array Bool → Act → World → Prop, Hid (∀ f l a w, T' f l a w → T f l a w) → Hid (∀ f l a w, T f l a w → T' f l a w) → T' f l a w) : T f l a w := h T (fun _ _ _ _ h => h) (fun _ _ _ _ h => h)
theorem letterA {T : Nat → Array Bool → Act → World → Prop} {f : Nat} {l : Array Bool} {a : Act} {w : World} (h : ∀ a0, Hid (a0 = a) → T f l a0 w) : T f l a w := h a rfl
theorem letterQ {P : Program} {id : Nat} {ops : Array Oper} {b : Bool} {Q : Exit → Act → World → Prop} {a : Act} {w : World} (h : ∀ QQ : Exit → Act → World → Prop, Hid (∀ a w, Q .normal a w → QQ .normal a w) → (Code.region id ops b).wp P (NoPanic QQ) a w) : (Code.region id ops b).wp P Q a w := wp_region_noPanic (h Q fun _ _ k => k)
/-- A step of a region that is a call of a Go function: the bare call, and the way on where it has returned. -/
theorem step_func {P : Program} {ops : Array Oper} {o : Oper} {a : Act} {K : Act → World → Prop} {Q : Exit → Act → World → Prop} {E : Prop} {w : World} (f : FuncId) {xs : Array Operand} {ts : Array TypeId} (vs : Array Value) (hw : Region.wanted o (yielded ops a.tmps) = true) (ho : o.op = .call { callee := .value (.func f), args := xs, argTypes := ts }) (hv : xs.map a.eval = vs)
    (hcf : ∀ vs w, (callFunc f vs).run P w = .ok (.enter f vs) w) (h : Calls P f vs w fun e w' => ∃ v, e = .returned v ∧ K (a.put o.dst v) w') :
    if Region.wanted o (yielded ops a.tmps) = true then Oper.wp P o a w K Q else E := by
  rw [if_pos hw]
  have e : (execOp a.eval o).run P w = .ok (.enter f vs) w := by
    have := hcf vs w
    unfold execOp
    rw [ho]
    simpa [go_sem, hv] using this
  unfold Oper.wp
  rw [e, Oper.upon_enter]
  refine h.mono fun e w' hr => ?_
  obtain ⟨v, rfl, hk⟩ := hr
  exact hk
theorem h_perm {X Y : List Nat} {P : World → Prop} {u : World} (h : Hid (HeldX X P u)) (e : ∀ p, p ∈ Y → p ∈ X) : Hid (HeldX Y P u) := h.out.fewer e
theorem b_perm {X Y : List Nat} {w u : World} (h : Hid (Boxes w u X)) (e : ∀ p, p ∈ Y → p ∈ X) : Hid (Boxes w u Y) := fun g m => h.out g (e g m)
end Go.Proofs.Ytihealembikkiaa
