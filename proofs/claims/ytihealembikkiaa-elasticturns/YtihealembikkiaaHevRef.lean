
/-
  The heap of the document (layer 14): what its functions answer, over items as lists.
-/
import Derived.Test.YtihealembikkiaaHevMem
import Derived.Test.YtihealembikkiaaHeldKit
import Derived.BigQuiet
import Derived.Lib.Strings
namespace Go.Proofs.Ytihealembikkiaa.L14
open Go.RowKit Hv Go.Deep
set_option linter.unusedVariables false
set_option maxRecDepth 20000

def itv (x : Itm) : Value := .agg #[.string x.k, .int .i64 x.c]
/-- A bool that tells whether something holds; the world stands. -/
def TellsW (w : World) (P : Prop) (e : Ending) (w' : World) : Prop := ∃ B : Bool, e = .returned (.bool B) ∧ (B = true ↔ P) ∧ w' = w
theorem less_eq : ∀ (x y : List UInt8), Op.bytesLess x y = decide (x < y)
  | [], [] => by simp [Op.bytesLess]
  | _ :: _, [] => by simp [Op.bytesLess]
  | [], _ :: _ => by simp [Op.bytesLess]
  | a :: x, b :: y => by
    rw [Op.bytesLess, less_eq x y]
    simp only [List.cons_lt_cons_iff]
    by_cases h1 : a < b <;> by_cases h2 : a = b <;> by_cases h3 : x < y <;> simp [h1, h2, h3]
set_option maxHeartbeats 800000 in
theorem hahead_any (w : World) (s : ByteArray) (c : Int) (t : ByteArray) (d : Int) : Calls Try.prog 68 #[.agg #[.string s, .int .i64 c], .agg #[.string t, .int .i64 d]] w fun e w' => e = .returned (.bool (aheadB ⟨s, c⟩ ⟨t, d⟩)) ∧ Below w.heap.size w w' := by
  have BX : Hid (Below w.heap.size w ((w.alloc (.cells #[.string s, .int .i64 c] 96)).alloc (.cells #[.string t, .int .i64 d] 96))) := (bel_alloc _ _).alloc (by simp) _
  by_cases h1 : c > d
  · have E : Hid (aheadB ⟨s, c⟩ ⟨t, d⟩ = true) := decide_eq_true (Or.inl h1)
    go_enter Try.func68, Try.ntmps68
    go_wp2_with fail
    go_ret
    exact ⟨by rw [E.out]; rfl, BX.out⟩
  by_cases h2 : c = d
  rotate_left
  · have E : Hid (aheadB ⟨s, c⟩ ⟨t, d⟩ = false) := decide_eq_false (fun h => h.elim h1 fun h => h2 h.1)
    have q : (c == d) = false := by simpa using h2
    clear h2
    go_enter Try.func68, Try.ntmps68
    go_wp2_with fail
    go_ret
    exact ⟨by rw [E.out]; rfl, BX.out⟩
  subst h2
  obtain ⟨L, hL⟩ : ∃ L, L = Op.bytesLess s.toList t.toList := ⟨_, rfl⟩
  have E : Hid (aheadB ⟨s, c⟩ ⟨t, c⟩ = L) := by
    show decide _ = L
    rw [hL, less_eq, Lib.toList_data, Lib.toList_data]
    simp
  have hL' := hL.symm
  clear hL
  go_enter Try.func68, Try.ntmps68
  go_wp2_with fail
  go_ret
  exact ⟨by rw [E.out]; first | rfl | simp, BX.out⟩
theorem infoRI0 : (Try.prog.info? 96).map (fun i => (i.zero, i.size, i.bytes)) = some (some (.agg #[.string ⟨#[]⟩, .int .i64 0]), 2, 24) := by kernel_rfl
theorem infoRI : ∃ i, Try.prog.info? 96 = some i ∧ i.zero = some (.agg #[.string ⟨#[]⟩, .int .i64 0]) ∧ i.size = 2 ∧ i.bytes = 24 := by
  obtain ⟨i, hi, hzz⟩ := Option.map_eq_some_iff.1 infoRI0
  simp only [Prod.mk.injEq] at hzz
  exact ⟨i, hi, hzz⟩
theorem str_eq (a b : ByteArray) : (a.toList == b.toList) = decide (a = b) := by
  rw [Lib.toList_data, Lib.toList_data]
  by_cases h : a = b
  · subst h; simp
  · rw [decide_eq_false h]
    simp only [beq_eq_false_iff_ne]
    exact fun e => h (key_ext e)
/-- Items that a call has made: they stand wherever what is new stands. -/
def NewL (w w' : World) (v : Value) (l : List Itm) : Prop := Held (fun q => w.heap.size ≤ q) (fun u => ItsL u v l) w'
theorem NewL.its {w w' : World} {v : Value} {l : List Itm} (h : NewL w w' v l) : ItsL w' v l := Held.at h
theorem GrowL.new {t : TypeId} {w0 w wr : World} {v : Value} {l : List Itm} (h : GrowL t w wr v l) (z : w0.heap.size ≤ w.heap.size) : NewL w0 wr v l := fun u e =>
  owns_its (owns_of h.own fun g hg => e.2 g (by have := (h.own.lt g hg).1; show _ ≤ g; omega) (h.own.lt g hg).2)
/-- Items told: what the call made. -/
def ToldL (w : World) (l : List Itm) (e : Ending) (w' : World) : Prop := ∃ v, e = .returned v ∧ NewL w w' v l ∧ Below w.heap.size w w'
end Go.Proofs.Ytihealembikkiaa.L14
