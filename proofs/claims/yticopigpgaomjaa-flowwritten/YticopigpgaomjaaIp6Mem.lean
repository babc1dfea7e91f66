
/-
  How headers with chains lie in memory, and what the small functions of layer 7 (ipsix) answer.
-/
import Derived.Test.YticopigpgaomjaaMemKit
import Derived.Test.YticopigpgaomjaaIp6Num
namespace Go.Proofs.Yticopigpgaomjaa.L7
open Go.RowKit Oc Ip6 Go.Deep
set_option linter.unusedVariables false

/-- A slice of extensions: readable, whoever made it. -/
def ChAt (w : World) (v : Value) (c : List Ex) : Prop :=
  ∃ (A : Option Addr) (cap b o : Nat), v = .slice A c.length cap ∧ c.length ≤ cap ∧ (0 < c.length → A = some ⟨b, o, none⟩) ∧ ∀ (i : Nat) (x : Ex), c[i]? = some x → w.cell? ⟨b, o + i * 2, none⟩ = some (.int .i64 x.kind) ∧ w.cell? ⟨b, o + i * 2 + 1, none⟩ = some (.string (bsL x.data))
theorem ChAt.keep {w w' : World} {v : Value} {c : List Ex} (h : ChAt w v c) (k : Keep w w') : ChAt w' v c := by
  obtain ⟨A, cap, b, o, h1, h2, h3, h4⟩ := h
  exact ⟨A, cap, b, o, h1, h2, h3, fun i x hi => ⟨k _ _ (h4 i x hi).1, k _ _ (h4 i x hi).2⟩⟩
theorem ChAt.form {w : World} {v : Value} {c : List Ex} (h : ChAt w v c) : ∃ A cap, v = .slice A c.length cap := by
  obtain ⟨A, cap, _, _, e, _⟩ := h
  exact ⟨A, cap, e⟩
theorem ChAt.none (w : World) : ChAt w (.slice none 0 0) [] := ⟨.none, 0, 0, 0, rfl, Nat.le_refl _, fun (h : 0 < 0) => absurd h (by omega), fun i x (h : [][i]? = some x) => by simp at h⟩
/-- What the walk asks of a chain, at a place: letters. -/
theorem ChAt.read {w : World} {v : Value} {c : List Ex} (h : ChAt w v c) : ∃ (A : Option Addr) (cap b o : Nat), v = .slice A c.length cap ∧ c.length ≤ cap ∧ ∀ i, i < c.length → A = some ⟨b, o, Option.none⟩ ∧ ∃ (K : Int) (D : List UInt8), c[i]? = some ⟨K, D⟩ ∧ b < w.heap.size ∧ w.cell? ⟨b, o + i * 2, Option.none⟩ = some (.int .i64 K) ∧ w.cell? ⟨b, o + i * 2 + 1, Option.none⟩ = some (.string (bsL D)) := by
  obtain ⟨A, cap, b, o, h1, h2, h3, h4⟩ := h
  refine ⟨A, cap, b, o, h1, h2, fun i hi => ⟨h3 (by omega), c[i].kind, c[i].data, by simp [hi], ?_⟩⟩
  have h5 := h4 i c[i] (by simp [hi])
  exact ⟨World.block_lt_of_cell? _ _ h5.1, h5.1, h5.2⟩
/-- A header as a value. -/
def HdAt (w : World) (x : Value) (F : Hd) : Prop := ∃ v, x = .agg #[.int .i64 F.cls, .int .i64 F.lab, .int .i64 F.hop, .int .i64 F.pro, .string (bsL F.src), .string (bsL F.dst), v] ∧ ChAt w v F.ch
theorem HdAt.keep {w w' : World} {x : Value} {F : Hd} (h : HdAt w x F) (k : Keep w w') : HdAt w' x F := by
  obtain ⟨v, h1, h2⟩ := h
  exact ⟨v, h1, h2.keep k⟩
theorem zero_at (w : World) : HdAt w (.agg #[.int .i64 0, .int .i64 0, .int .i64 0, .int .i64 0, .string ⟨#[]⟩, .string ⟨#[]⟩, .slice none 0 0]) zeroHd := ⟨_, rfl, ChAt.none w⟩

set_option maxHeartbeats 400000 in
theorem xkind_any (n : Int) (w : World) : Calls Try.prog 87 #[.int .i64 n] w fun e w' => e = .returned (.bool (isX n)) ∧ w' = w := by
  by_cases h1 : n = 0
  · subst h1
    go_enter Try.func87, Try.ntmps87
    go_wp2
    go_ret
    exact ⟨rfl, rfl⟩
  by_cases h2 : n = 43
  · subst h2
    go_enter Try.func87, Try.ntmps87
    go_wp2
    go_ret
    exact ⟨rfl, rfl⟩
  by_cases h3 : n = 44
  · subst h3
    go_enter Try.func87, Try.ntmps87
    go_wp2
    go_ret
    exact ⟨rfl, rfl⟩
  have q1 : (n == 0) = false := by simpa using h1
  have q2 : (n == 43) = false := by simpa using h2
  have q3 : (n == 44) = false := by simpa using h3
  have E : Hid (isX n = (n == 60)) := by show isX n = _; unfold isX; rw [q1, q2, q3]; rfl
  clear h1 h2 h3
  go_enter Try.func87, Try.ntmps87
  go_wp2
  go_ret
  exact ⟨by rw [E.out]; rfl, rfl⟩
set_option maxHeartbeats 400000 in
theorem rkind_any (n : Int) (w : World) : Calls Try.prog 53 #[.int .i64 n] w fun e w' => e = .returned (.bool (isX n)) ∧ w' = w := by
  by_cases h1 : n = 0
  · subst h1
    go_enter Try.func53, Try.ntmps53
    go_wp2
    go_ret
    exact ⟨rfl, rfl⟩
  by_cases h2 : n = 43
  · subst h2
    go_enter Try.func53, Try.ntmps53
    go_wp2
    go_ret
    exact ⟨rfl, rfl⟩
  by_cases h3 : n = 44
  · subst h3
    go_enter Try.func53, Try.ntmps53
    go_wp2
    go_ret
    exact ⟨rfl, rfl⟩
  have q1 : (n == 0) = false := by simpa using h1
  have q2 : (n == 43) = false := by simpa using h2
  have q3 : (n == 44) = false := by simpa using h3
  have E : Hid (isX n = (n == 60)) := by show isX n = _; unfold isX; rw [q1, q2, q3]; rfl
  clear h1 h2 h3
  go_enter Try.func53, Try.ntmps53
  go_wp2
  go_ret
  exact ⟨by rw [E.out]; rfl, rfl⟩
def mayB (k : Nat) (n : Int) : Bool := isX n && (n != 0 || k == 0)
theorem mayB_iff {k : Nat} {n : Int} : mayB k n = true ↔ isX n = true ∧ (n = 0 → k = 0) := by
  unfold mayB
  simp only [Bool.and_eq_true, Bool.or_eq_true, bne_iff_ne, beq_iff_eq]
  constructor
  · rintro ⟨a, b⟩; exact ⟨a, fun e => by rcases b with b | b; exact absurd e b; exact b⟩
  · rintro ⟨a, b⟩
    refine ⟨a, ?_⟩
    by_cases e : n = 0
    · exact Or.inr (b e)
    · exact Or.inl e
set_option maxHeartbeats 400000 in
theorem may_any (k : Nat) (n : Int) (w : World) : Calls Try.prog 88 #[.int .i64 (k : Int), .int .i64 n] w fun e w' => e = .returned (.bool (mayB k n)) ∧ w' = w := by
  by_cases h1 : isX n = true
  rotate_left
  · have h1' : isX n = false := by simpa using h1
    have E : Hid (mayB k n = false) := by show mayB k n = _; unfold mayB; rw [h1']; rfl
    clear h1
    go_enter Try.func88, Try.ntmps88
    go_wp2_with fail
    refine (xkind_any n _).mono ?_
    rintro e w1 ⟨rfl, rfl⟩
    go_wp2_with fail
    go_ret
    exact ⟨by rw [E.out]; rfl, rfl⟩
  by_cases h2 : n = 0
  · subst h2
    have E : Hid (mayB k 0 = ((k : Int) == 0)) := by
      show mayB k 0 = _
      unfold mayB
      by_cases e : k = 0
      · subst e; rfl
      · have e1 : (k == 0) = false := by simpa using e
        have e2 : ((k : Int) == 0) = false := by simpa using e
        rw [e1, e2]; rfl
    go_enter Try.func88, Try.ntmps88
    go_wp2_with fail
    refine (xkind_any 0 _).mono ?_
    rintro e w1 ⟨rfl, rfl⟩
    go_wp2_with fail
    go_ret
    exact ⟨by rw [E.out]; rfl, rfl⟩
  · have q : (n != 0) = true := by simpa using h2
    have E : Hid (mayB k n = true) := by show mayB k n = _; unfold mayB; rw [h1, q]; rfl
    clear h2
    go_enter Try.func88, Try.ntmps88
    go_wp2_with fail
    refine (xkind_any n _).mono ?_
    rintro e w1 ⟨rfl, rfl⟩
    go_wp2_with fail
    go_ret
    exact ⟨by rw [E.out]; rfl, rfl⟩
set_option maxHeartbeats 400000 in
theorem numat_any (l : List UInt8) (k b : Nat) (w : World) (h1 : 1 ≤ b) (h2 : b ≤ 7) (h : k + b ≤ l.length) (hl : l.length ≤ 1152921504606846976) : Calls Try.prog 78 #[.string (bsL l), .int .i64 (k : Int), .int .i64 (b : Int)] w fun e w' => e = .returned (.int .i64 (numL ((l.drop k).take b) : Int)) ∧ Below w.heap.size w w' := by
  have D := bsL_drop l k
  rw [bsL_size] at D
  have hd : (l.drop k).length = l.length - k := by simp
  have HD : Hid (b ≤ (l.drop k).length) := by show b ≤ (l.drop k).length; omega
  clear hd
  go_enter Try.func78, Try.ntmps78
  go_wp2_with fail
  refine (take_ok (l.drop k) b _ h1 h2 HD.out).mono ?_
  rintro e w1 ⟨rfl, b1⟩
  go_wp2_with fail
  go_ret
  exact ⟨rfl, b1⟩
end Go.Proofs.Yticopigpgaomjaa.L7
