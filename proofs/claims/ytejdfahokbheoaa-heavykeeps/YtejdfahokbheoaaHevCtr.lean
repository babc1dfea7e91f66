
/-
  What the laws of layer 14 want of the program's heap, in one word: whatever lies in memory for a heap (HP), these are its contracts. The laws are walked over it; the code's own text proves it.
-/
import Derived.Test.YtejdfahokbheoaaHevMem
import Derived.Test.YtejdfahokbheoaaHevOpen
import Derived.Test.YtejdfahokbheoaaHeldKit
import Derived.Test.YtejdfahokbheoaaHevRef
namespace Go.Proofs.Ytejdfahokbheoaa
open Go.RowKit Hv Go.Deep
set_option linter.unusedVariables false

theorem hid {p : Prop} (h : p) : Hid p := h
def i64 (x : Int) : Prop := -9223372036854775808 ≤ x ∧ x ≤ 9223372036854775807
/-- The world, the base, the heap's value, its room, its list as it stands, the blocks that it owns. -/
abbrev HPT := World → Nat → Value → Nat → List Itm → (Nat → Prop) → Prop
def itq (l : List Itm) (i : Nat) : Itm := (l[i]?).getD ⟨⟨#[]⟩, 0⟩
theorem itq_at {l : List Itm} {i : Nat} {x : Itm} (h : l[i]? = some x) : itq l i = x := by unfold itq; rw [h]; rfl
structure Ctr (HP : HPT) : Prop where
  own : ∀ {w : World} {Bd : Nat} {v : Value} {room : Nat} {m : List Itm} {D : Nat → Prop}, HP w Bd v room m D → ∀ q, D q → Bd ≤ q ∧ q < w.heap.size
  keep : ∀ {w w' : World} {Bd : Nat} {v : Value} {room : Nat} {m : List Itm} {D : Nat → Prop}, HP w Bd v room m D → Same D w w' → HP w' Bd v room m D
  ptr : ∀ {w : World} {Bd : Nat} {v : Value} {room : Nat} {m : List Itm} {D : Nat → Prop}, HP w Bd v room m D → ∃ p, v = .pointer (some ⟨p, 0, none⟩)
  new_ok : ∀ (w : World) (room : Nat), 1 ≤ room → room ≤ 64 → Calls Try.prog 10 #[.int .i64 (room : Int)] w fun e w' => ∃ v D, e = .returned v ∧ HP w' w.heap.size v room [] D ∧ Below w.heap.size w w'
  new_bad : ∀ (w : World) (r : Int), i64 r → (r < 1 ∨ 64 < r) → Calls Try.prog 10 #[.int .i64 r] w fun e w' => e = .returned (.pointer none) ∧ Below w.heap.size w w'
  offer : ∀ (w : World) (Bd : Nat) (v : Value) (room : Nat) (m : List Itm) (D : Nat → Prop) (s : ByteArray) (c : Int), HP w Bd v room m D → Bd ≤ w.heap.size → s.size ≤ 9223372036854775807 → i64 c → Calls Try.prog 12 #[v, .string s, .int .i64 c] w fun e w' => e = .returned (.bool (offerL room m s c).2) ∧ ∃ D', HP w' Bd v room (offerL room m s c).1 D' ∧ Below Bd w w' ∧ Same (fun q => ¬ D q) w w' ∧ ∀ q, D' q → D q ∨ w.heap.size ≤ q
  offer_nil : ∀ (w : World) (s : ByteArray) (c : Int), Calls Try.prog 12 #[.pointer none, .string s, .int .i64 c] w fun e w' => e = .returned (.bool false) ∧ Below w.heap.size w w'
  get : ∀ (w : World) (Bd : Nat) (v : Value) (room : Nat) (m : List Itm) (D : Nat → Prop) (s : ByteArray), HP w Bd v room m D → s.size ≤ 9223372036854775807 → Calls Try.prog 19 #[v, .string s] w fun e w' => e = .returned (.tuple #[.int .i64 ((getL m s).getD 0), .bool (getL m s).isSome]) ∧ Below w.heap.size w w'
  get_nil : ∀ (w : World) (s : ByteArray), Calls Try.prog 19 #[.pointer none, .string s] w fun e w' => e = .returned (.tuple #[.int .i64 0, .bool false]) ∧ Below w.heap.size w w'
  list : ∀ (w : World) (Bd : Nat) (v : Value) (room : Nat) (m : List Itm) (D : Nat → Prop), HP w Bd v room m D → Calls Try.prog 17 #[v] w fun e w' => ∃ lv, e = .returned lv ∧ NewL w w' lv m ∧ Below w.heap.size w w'
  list_nil : ∀ (w : World), Calls Try.prog 17 #[.pointer none] w fun e w' => ∃ lv, e = .returned lv ∧ NewL w w' lv [] ∧ Below w.heap.size w w'
  last_some : ∀ (w : World) (Bd : Nat) (v : Value) (room : Nat) (m : List Itm) (D : Nat → Prop) (z : Itm), HP w Bd v room m D → m.getLast? = some z → Calls Try.prog 18 #[v] w fun e w' => e = .returned (.tuple #[.agg #[.string z.k, .int .i64 z.c], .bool true]) ∧ Below w.heap.size w w'
  last_none : ∀ (w : World) (Bd : Nat) (v : Value) (room : Nat) (m : List Itm) (D : Nat → Prop), HP w Bd v room m D → m = [] → Calls Try.prog 18 #[v] w fun e w' => e = .returned (.tuple #[.agg #[.string ⟨#[]⟩, .int .i64 0], .bool false]) ∧ Below w.heap.size w w'
  last_nil : ∀ (w : World), Calls Try.prog 18 #[.pointer none] w fun e w' => e = .returned (.tuple #[.agg #[.string ⟨#[]⟩, .int .i64 0], .bool false]) ∧ Below w.heap.size w w'
  len : ∀ (w : World) (Bd : Nat) (v : Value) (room : Nat) (m : List Itm) (D : Nat → Prop), HP w Bd v room m D → Calls Try.prog 15 #[v] w fun e w' => e = .returned (.int .i64 (m.length : Int)) ∧ Below w.heap.size w w'
  len_nil : ∀ (w : World), Calls Try.prog 15 #[.pointer none] w fun e w' => e = .returned (.int .i64 0) ∧ Below w.heap.size w w'
  check : ∀ (w : World) (Bd : Nat) (v : Value) (room : Nat) (m : List Itm) (D : Nat → Prop), HP w Bd v room m D → Calls Try.prog 14 #[v] w fun e w' => e = .returned (.bool true) ∧ Below w.heap.size w w'
  check_nil : ∀ (w : World), Calls Try.prog 14 #[.pointer none] w fun e w' => e = .returned (.bool false) ∧ Below w.heap.size w w'
  of_ok : ∀ (w : World) (room : Nat) (lv : Value) (l : List Itm), ItemsL w lv l → 1 ≤ room → room ≤ 64 → Calls Try.prog 11 #[.int .i64 (room : Int), lv] w fun e w' => ∃ v D, e = .returned v ∧ HP w' w.heap.size v room (offersL room (itq l) l.length) D ∧ Below w.heap.size w w'
  of_bad : ∀ (w : World) (r : Int) (lv : Value) (l : List Itm), ItemsL w lv l → i64 r → (r < 1 ∨ 64 < r) → Calls Try.prog 11 #[.int .i64 r, lv] w fun e w' => e = .returned (.pointer none) ∧ Below w.heap.size w w'
theorem offers_pos {room : Nat} (r1 : 1 ≤ room) (q : Nat → Itm) : ∀ n, 0 < n → 0 < (offersL room q n).length
  | k + 1, _ => by
    obtain ⟨_, h2, h3, _⟩ := offer_length (offers_stands room q k) r1 (offers_length r1 q k) (q k).k (q k).c
    show 0 < (offerL room (offersL room q k) (q k).k (q k).c).1.length
    by_cases e : offersL room q k = []
    · have := h3 (by rw [e]; intro y m; cases m) (by rw [e]; simp; omega)
      rw [this]
      omega
    · have := List.length_pos_iff.2 e
      omega
section
variable {HP : HPT} (C : Ctr HP)
include C
theorem Ctr.since {w w' : World} {Bd : Nat} {v : Value} {room : Nat} {m : List Itm} {D : Nat → Prop} (h : HP w Bd v room m D) (b : Below w.heap.size w w') : HP w' Bd v room m D := C.keep h (Same.below b)
set_option maxHeartbeats 1600000 in
set_option maxRecDepth 20000 in
theorem hawake_any (w : World) : Calls Try.prog 9 #[] w fun e w' => e = .returned (.bool true) ∧ Below w.heap.size w w' := by
  have o1 : offerL 2 [] ⟨#[97]⟩ 1 = ([⟨⟨#[97]⟩, 1⟩], true) := by kernel_rfl
  have o2 : offerL 2 [⟨⟨#[97]⟩, 1⟩] ⟨#[98]⟩ 2 = ([⟨⟨#[98]⟩, 2⟩, ⟨⟨#[97]⟩, 1⟩], true) := by kernel_rfl
  have o3 : offerL 2 [⟨⟨#[98]⟩, 2⟩, ⟨⟨#[97]⟩, 1⟩] ⟨#[99]⟩ 1 = ([⟨⟨#[98]⟩, 2⟩, ⟨⟨#[97]⟩, 1⟩], false) := by kernel_rfl
  have o4 : offerL 2 [⟨⟨#[98]⟩, 2⟩, ⟨⟨#[97]⟩, 1⟩] ⟨#[99]⟩ 2 = ([⟨⟨#[98]⟩, 2⟩, ⟨⟨#[99]⟩, 2⟩], true) := by kernel_rfl
  have O1 := hid o1
  have O2 := hid o2
  have O3 := hid o3
  have O4 := hid o4
  clear o1 o2 o3 o4
  go_enter Try.func9, Try.ntmps9
  go_wp2_with fail
  refine (C.new_ok w 2 (by omega) (by omega)).mono ?_
  rintro e u1 ⟨v, D1, rfl, H1, b1⟩
  have HP1 := hid H1
  have BE1 := hid b1
  obtain ⟨p, rfl⟩ := C.ptr H1
  clear H1 b1
  go_wp2_with fail
  refine (C.offer u1 _ _ 2 [] D1 ⟨#[97]⟩ 1 HP1.out BE1.out.size (by decide) (by unfold i64; omega)).mono ?_
  rintro e u2 ⟨rfl, D2, H2, b2, _, _⟩
  rw [O1.out] at H2 ⊢
  have HP2 := hid H2
  have BE2 := hid (BE1.out.trans b2)
  clear H2 b2
  go_wp2_with fail
  refine (C.offer u2 _ _ 2 _ D2 ⟨#[98]⟩ 2 HP2.out BE2.out.size (by decide) (by unfold i64; omega)).mono ?_
  rintro e u3 ⟨rfl, D3, H3, b3, _, _⟩
  rw [O2.out] at H3 ⊢
  have HP3 := hid H3
  have BE3 := hid (BE2.out.trans b3)
  clear H3 b3
  go_wp2_with fail
  refine (C.offer u3 _ _ 2 _ D3 ⟨#[99]⟩ 1 HP3.out BE3.out.size (by decide) (by unfold i64; omega)).mono ?_
  rintro e u4 ⟨rfl, D4, H4, b4, _, _⟩
  rw [O3.out] at H4 ⊢
  have HP4 := hid H4
  have BE4 := hid (BE3.out.trans b4)
  clear H4 b4
  go_wp2_with fail
  refine (C.offer u4 _ _ 2 _ D4 ⟨#[99]⟩ 2 HP4.out BE4.out.size (by decide) (by unfold i64; omega)).mono ?_
  rintro e u5 ⟨rfl, D5, H5, b5, _, _⟩
  rw [O4.out] at H5 ⊢
  have HP5 := hid H5
  have BE5 := hid (BE4.out.trans b5)
  clear H5 b5
  go_wp2_with fail
  refine (C.list u5 _ _ 2 _ D5 HP5.out).mono ?_
  rintro e u6 ⟨lv, rfl, L6, b6⟩
  have HP6 := hid (C.since HP5.out b6)
  have BE6 := hid (bel_trans BE5.out b6)
  obtain ⟨A, cap, b, o, rfl, _, h3, h4⟩ := L6.its
  obtain rfl := h3 (by decide)
  have c0 := (h4 0 _ rfl).1
  have c1 := (h4 1 _ rfl).1
  simp only [List.length_cons, List.length_nil, Nat.zero_mul, Nat.add_zero, Nat.one_mul] at c0 c1 ⊢
  clear L6 b6 h3 h4
  go_wp2_with fail
  refine (C.check u6 _ _ 2 _ D5 HP6.out).mono ?_
  rintro e u7 ⟨rfl, b7⟩
  go_wp2_with fail
  go_ret
  exact ⟨rfl, bel_trans BE6.out b7⟩
end
end Go.Proofs.Ytejdfahokbheoaa
