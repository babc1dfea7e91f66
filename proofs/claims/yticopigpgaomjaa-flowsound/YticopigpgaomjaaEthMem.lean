
/-
  How frames lie in memory, and what the small functions of layer 5 (ether) answer.
-/
import Derived.Test.YticopigpgaomjaaOctCalls
import Derived.Test.YticopigpgaomjaaEthNum
import Derived.Deep.AppendLies
import Derived.Deep.RegionHeld3
import Derived.Deep.DrawnRows
namespace Go.Proofs.Yticopigpgaomjaa.L5
open Go.RowKit Oc Et

/-- What was there is there. -/
def Keep (w w' : World) : Prop := ∀ a v, w.cell? a = some v → w'.cell? a = some v
theorem Keep.refl (w : World) : Keep w w := fun _ _ h => h
theorem Keep.trans {a b c : World} (h : Keep a b) (k : Keep b c) : Keep a c := fun x v e => k x v (h x v e)
theorem keep_of_below {w w' : World} (h : Below w.heap.size w w') : Keep w w' := fun a v e => by
  rw [h.cell (World.block_lt_of_cell? w a e)]; exact e
theorem below_old {w wr : World} {o : Obj} (h : Below (w.heap.size + 1) (w.alloc o) wr) {a : Addr} {v : Value} (e : w.cell? a = some v) : wr.cell? a = some v := by
  have hb := World.block_lt_of_cell? w a e
  rw [h.cell (by omega), World.cell?_alloc_lt w o a hb]; exact e
theorem below_new {w wr : World} {c : Array Value} {t : TypeId} (h : Below (w.heap.size + 1) (w.alloc (.cells c t)) wr) (i : Nat) : wr.cell? ⟨w.heap.size, i, none⟩ = c[i]? := by
  rw [h.cell (by show w.heap.size < _; omega), World.cell?_alloc_new]
theorem below_since {w wr : World} {o : Obj} (h : Below (w.heap.size + 1) (w.alloc o) wr) : Below w.heap.size w wr :=
  ((Below.refl _ _).alloc (Nat.le_refl _) o).trans (h.mono (by omega))
/-- A slice of tags: readable, whoever made it. -/
def TagsAt (w : World) (v : Value) (n : Nat) (K V : Nat → Int) : Prop :=
  ∃ (A : Option Addr) (cap b o : Nat), v = .slice A n cap ∧ n ≤ cap ∧ (0 < n → A = some ⟨b, o, none⟩) ∧ ∀ i, i < n → w.cell? ⟨b, o + i * 2, none⟩ = some (.int .i64 (K i)) ∧ w.cell? ⟨b, o + i * 2 + 1, none⟩ = some (.int .i64 (V i))
theorem TagsAt.keep {w w' : World} {v : Value} {n : Nat} {K V : Nat → Int} (h : TagsAt w v n K V) (k : Keep w w') : TagsAt w' v n K V := by
  obtain ⟨A, cap, b, o, h1, h2, h3, h4⟩ := h
  exact ⟨A, cap, b, o, h1, h2, h3, fun i hi => ⟨k _ _ (h4 i hi).1, k _ _ (h4 i hi).2⟩⟩
theorem TagsAt.form {w : World} {v : Value} {n : Nat} {K V : Nat → Int} (h : TagsAt w v n K V) : ∃ A cap, v = .slice A n cap := by
  obtain ⟨A, cap, _, _, e, _⟩ := h
  exact ⟨A, cap, e⟩
/-- A frame as a value. -/
def FrameAt (w : World) (x : Value) (F : Fr) : Prop := ∃ v, x = .agg #[.string (bsL F.d), .string (bsL F.s), v, .int .i64 F.T] ∧ TagsAt w v F.n F.K F.V
theorem FrameAt.keep {w w' : World} {x : Value} {F : Fr} (h : FrameAt w x F) (k : Keep w w') : FrameAt w' x F := by
  obtain ⟨v, h1, h2⟩ := h
  exact ⟨v, h1, h2.keep k⟩

set_option maxHeartbeats 400000 in
theorem kind_any (n : Int) (w : World) : Calls Try.prog 59 #[.int .i64 n] w fun e w' => e = .returned (.bool (isK n)) ∧ w' = w := by
  by_cases h1 : n = 33024
  · subst h1
    go_enter Try.func59, Try.ntmps59
    go_wp2
    go_ret
    exact ⟨rfl, rfl⟩
  · have h2 : (n == 33024) = false := by simpa using h1
    have E : Hid (isK n = (n == 34984)) := by show isK n = _; unfold isK; rw [h2]; rfl
    clear h1
    go_enter Try.func59, Try.ntmps59
    go_wp2
    go_ret
    exact ⟨by rw [E.out]; rfl, rfl⟩
set_option maxHeartbeats 400000 in
theorem tag_any (n : Int) (w : World) : Calls Try.prog 50 #[.int .i64 n] w fun e w' => e = .returned (.bool (isK n)) ∧ w' = w := by
  by_cases h1 : n = 33024
  · subst h1
    go_enter Try.func50, Try.ntmps50
    go_wp2
    go_ret
    exact ⟨rfl, rfl⟩
  · have h2 : (n == 33024) = false := by simpa using h1
    have E : Hid (isK n = (n == 34984)) := by show isK n = _; unfold isK; rw [h2]; rfl
    clear h1
    go_enter Try.func50, Try.ntmps50
    go_wp2
    go_ret
    exact ⟨by rw [E.out]; rfl, rfl⟩
set_option maxHeartbeats 400000 in
theorem number_is (n : Int) (w : World) : Calls Try.prog 60 #[.int .i64 n] w fun e w' => e = .returned (.bool (isN n)) ∧ w' = w := by
  by_cases h1 : 0 ≤ n
  · have E : Hid (isN n = decide (n ≤ 65535)) := by show isN n = _; unfold isN; rw [decide_eq_true h1]; rfl
    go_enter Try.func60, Try.ntmps60
    go_wp2
    go_ret
    exact ⟨by rw [E.out]; rfl, rfl⟩
  · have E : Hid (isN n = false) := by show isN n = _; unfold isN; rw [decide_eq_false h1]; rfl
    go_enter Try.func60, Try.ntmps60
    go_wp2
    go_ret
    exact ⟨by rw [E.out]; rfl, rfl⟩
set_option maxHeartbeats 400000 in
theorem number_any (N : Nat) (w : World) (h : N < 65536) : Calls Try.prog 43 #[.int .i64 (N : Int)] w fun e w' => e = .returned (.string (bsL (bytesL N 2))) ∧ Below w.heap.size w w' := by
  go_enter Try.func43, Try.ntmps43
  go_wp2_with fail
  refine (put_ok N 2 _ (by omega) (by omega) (by omega)).mono ?_
  rintro e w1 ⟨rfl, b1⟩
  go_wp2_with fail
  go_ret
  exact ⟨rfl, b1⟩
end Go.Proofs.Yticopigpgaomjaa.L5
