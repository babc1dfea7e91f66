/-
  How headers with chains lie in memory, and what the small functions of layer 7 (ipsix) answer.
-/
import Derived.Test.YtjbpbahaekbmlaaMemKit
import Derived.Test.YtjbpbahaekbmlaaIp6Num
namespace Go.Proofs.Ytjbpbahaekbmlaa
open Go.RowKit Oc Ip6 Go.Deep
set_option linter.unusedVariables false

/-- A slice of extensions: readable, whoever made it. -/
def ChAt (w : World) (v : Value) (c : List Ex) : Prop :=
  ∃ (A : Option Addr) (cap b o : Nat), v = .slice A c.length cap ∧ c.length ≤ cap ∧ (0 < c.length → A = some ⟨b, o, none⟩) ∧ ∀ (i : Nat) (x : Ex), c[i]? = some x → w.cell? ⟨b, o + i * 2, none⟩ = some (.int .i64 x.kind) ∧ w.cell? ⟨b, o + i * 2 + 1, none⟩ = some (.string (bsL x.data))
theorem ChAt.keep {w w' : World} {v : Value} {c : List Ex} (h : ChAt w v c) (k : Keep w w') : ChAt w' v c := by
  obtain ⟨A, cap, b, o, h1, h2, h3, h4⟩ := h
  exact ⟨A, cap, b, o, h1, h2, h3, fun i x hi => ⟨k _ _ (h4 i x hi).1, k _ _ (h4 i x hi).2⟩⟩
theorem ChAt.form {w : World} {v : Value} {c : List Ex} (h : ChAt w v c) : ∃ A cap, v = .slice A c.length cap := by
  obtain ⟨A, cap, _, _, e, _⟩ := h
  exact ⟨A, cap, e⟩
theorem ChAt.none (w : World) : ChAt w (.slice none 0 0) [] := ⟨.none, 0, 0, 0, rfl, Nat.le_refl _, fun (h : 0 < 0) => absurd h (by omega), fun i x (h : [][i]? = some x) => by simp at h⟩
/-- What the walk asks of a chain, at a place: letters. -/
theorem ChAt.read {w : World} {v : Value} {c : List Ex} (h : ChAt w v c) : ∃ (A : Option Addr) (cap b o : Nat), v = .slice A c.length cap ∧ c.length ≤ cap ∧ ∀ i, i < c.length → A = some ⟨b, o, Option.none⟩ ∧ ∃ (K : Int) (D : List UInt8), c[i]? = some ⟨K, D⟩ ∧ b < w.heap.size ∧ w.cell? ⟨b, o + i * 2, Option.none⟩ = some (.int .i64 K) ∧ w.cell? ⟨b, o + i * 2 + 1, Option.none⟩ = some (.string (bsL D)) := by
  obtain ⟨A, cap, b, o, h1, h2, h3, h4⟩ := h
  refine ⟨A, cap, b, o, h1, h2, fun i hi => ⟨h3 (by omega), c[i].kind, c[i].data, by simp [hi], ?_⟩⟩
  have h5 := h4 i c[i] (by simp [hi])
  exact ⟨World.block_lt_of_cell? _ _ h5.1, h5.1, h5.2⟩
/-- A header as a value. -/
def HdAt (w : World) (x : Value) (F : Hd) : Prop := ∃ v, x = .agg #[.int .i64 F.cls, .int .i64 F.lab, .int .i64 F.hop, .int .i64 F.pro, .string (bsL F.src), .string (bsL F.dst), v] ∧ ChAt w v F.ch
theorem HdAt.keep {w w' : World} {x : Value} {F : Hd} (h : HdAt w x F) (k : Keep w w') : HdAt w' x F := by
  obtain ⟨v, h1, h2⟩ := h
  exact ⟨v, h1, h2.keep k⟩
theorem zero_at (w : World) : HdAt w (.agg #[.int .i64 0, .int .i64 0, .int .i64 0, .int .i64 0, .string ⟨#[]⟩, .string ⟨#[]⟩, .slice none 0 0]) zeroHd := ⟨_, rfl, ChAt.none w⟩

set_option maxHeartbeats 400000 in
theorem xkind_any (n : Int) (w : World) : Calls Try.prog 30 #[.int .i64 n] w fun e w' => e = .returned (.bool (isX n)) ∧ w' = w := by
  by_cases h1 : n = 0
  · subst h1
    go_enter Try.func30, Try.ntmps30
    go_wp2
    go_ret
    exact ⟨rfl, rfl⟩
  by_cases h2 : n = 43
  · subst h2
    go_enter Try.func30, Try.ntmps30
    go_wp2
    go_ret
    exact ⟨rfl, rfl⟩
  by_cases h3 : n = 44
  · subst h3
    go_enter Try.func30, Try.ntmps30
    go_wp2
    go_ret
    exact ⟨rfl, rfl⟩
  have q1 : (n == 0) = false := by simpa using h1
  have q2 : (n == 43) = false := by simpa using h2
  have q3 : (n == 44) = false := by simpa using h3
  have E : Hid (isX n = (n == 60)) := by show isX n = _; unfold isX; rw [q1, q2, q3]; rfl
  clear h1 h2 h3
  go_enter Try.func30, Try.ntmps30
  go_wp2
  go_ret
  exact ⟨by rw [E.out]; rfl, rfl⟩
set_option maxHeartbeats 400000 in
theorem rkind_any (n : Int) (w : World) : Calls Try.prog 24 #[.int .i64 n] w fun e w' => e = .returned (.bool (isX n)) ∧ w' = w := by
  by_cases h1 : n = 0
  · subst h1
    go_enter Try.func24, Try.ntmps24
    go_wp2
    go_ret
    exact ⟨rfl, rfl⟩
  by_cases h2 : n = 43
  · subst h2
    go_enter Try.func24, Try.ntmps24
    go_wp2
    go_ret
    exact ⟨rfl, rfl⟩
  by_cases h3 : n = 44
  · subst h3
    go_enter Try.func24, Try.ntmps24
    go_wp2
    go_ret
    exact ⟨rfl, rfl⟩
  have q1 : (n == 0) = false := by simpa using h1
  have q2 : (n == 43) = false := by simpa using h2
  have q3 : (n == 44) = false := by simpa using h3
  have E : Hid (isX n = (n == 60)) := by show isX n = _; unfold isX; rw [q1, q2, q3]; rfl
  clear h1 h2 h3
  go_enter Try.func24, Try.ntmps24
  go_wp2
  go_ret
  exact ⟨by rw [E.out]; rfl, rfl⟩
def mayB (k : Nat) (n : Int) : Bool := isX n && (n != 0 || k == 0)
theorem mayB_iff {k : Nat} {n : Int} : mayB k n = true ↔ isX n = true ∧ (n = 0 → k = 0) := by
  unfold mayB
  simp only [Bool.and_eq_true, Bool.or_eq_true, bne_iff_ne, beq_iff_eq]
  constructor
  · rintro ⟨a, b⟩; exact ⟨a, fun e => by rcases b with b | b; exact absurd e b; exact b⟩
  · rintro ⟨a, b⟩
    refine ⟨a, ?_⟩
    by_cases e : n = 0
    · exact Or.inr (b e)
    · exact Or.inl e
set_option maxHeartbeats 400000 in
theorem may_any (k : Nat) (n : Int) (w : World) : Calls Try.prog 35 #[.int .i64 (k : Int), .int .i64 n] w fun e w' => e = .returned (.bool (mayB k n)) ∧ w' = w := by
  by_cases h1 : isX n = true
  rotate_left
  · have h1' : isX n = false := by simpa using h1
    have E : Hid (mayB k n = false) := by show mayB k n = _; unfold mayB; rw [h1']; rfl
    clear h1
    go_enter Try.func35, Try.ntmps35
    go_wp2_with fail
    refine (xkind_any n _).mono ?_
    rintro e w1 ⟨rfl, rfl⟩
    go_wp2_with fail
    go_ret
    exact ⟨by rw [E.out]; rfl, rfl⟩
  by_cases h2 : n = 0
  · subst h2
    have E : Hid (mayB k 0 = ((k : Int) == 0)) := by
      show mayB k 0 = _
      unfold mayB
      by_cases e : k = 0
      · subst e; rfl
      · have e1 : (k == 0) = false := by simpa using e
        have e2 : ((k : Int) == 0) = false := by simpa using e
        rw [e1, e2]; rfl
    go_enter Try.func35, Try.ntmps35
    go_wp2_with fail
    refine (xkind_any 0 _).mono ?_
    rintro e w1 ⟨rfl, rfl⟩
    go_wp2_with fail
    go_ret
    exact ⟨by rw [E.out]; rfl, rfl⟩
  · have q : (n != 0) = true := by simpa using h2
    have E : Hid (mayB k n = true) := by show mayB k n = _; unfold mayB; rw [h1, q]; rfl
    clear h2
    go_enter Try.func35, Try.ntmps35
    go_wp2_with fail
    refine (xkind_any n _).mono ?_
    rintro e w1 ⟨rfl, rfl⟩
    go_wp2_with fail
    go_ret
    exact ⟨by rw [E.out]; rfl, rfl⟩
def upB (n g : Int) : Bool := decide (0 ≤ n) && decide (n ≤ g)
theorem upB_iff {n g : Int} : upB n g = true ↔ 0 ≤ n ∧ n ≤ g := by simp [upB]
set_option maxHeartbeats 400000 in
theorem upto_any (n g : Int) (w : World) : Calls Try.prog 29 #[.int .i64 n, .int .i64 g] w fun e w' => e = .returned (.bool (upB n g)) ∧ w' = w := by
  by_cases h1 : 0 ≤ n
  · have E : Hid (upB n g = decide (n ≤ g)) := by show upB n g = _; unfold upB; rw [decide_eq_true h1]; rfl
    go_enter Try.func29, Try.ntmps29
    go_wp2
    go_ret
    exact ⟨by rw [E.out]; rfl, rfl⟩
  · have E : Hid (upB n g = false) := by show upB n g = _; unfold upB; rw [decide_eq_false h1]; rfl
    go_enter Try.func29, Try.ntmps29
    go_wp2
    go_ret
    exact ⟨by rw [E.out]; rfl, rfl⟩
set_option maxHeartbeats 400000 in
theorem numw_any (N k : Nat) (w : World) (h1 : 1 ≤ k) (h2 : k ≤ 7) (h : N < 256 ^ k) : Calls Try.prog 27 #[.int .i64 (N : Int), .int .i64 (k : Int)] w fun e w' => e = .returned (.string (bsL (bytesL N k))) ∧ Below w.heap.size w w' := by
  have HN : Hid (N < 256 ^ k) := h
  clear h
  go_enter Try.func27, Try.ntmps27
  go_wp2_with fail
  refine (put_ok N k _ h1 h2 HN.out).mono ?_
  rintro e w1 ⟨rfl, b1⟩
  go_wp2_with fail
  go_ret
  exact ⟨rfl, b1⟩
set_option maxHeartbeats 400000 in
theorem numat_any (l : List UInt8) (k b : Nat) (w : World) (h1 : 1 ≤ b) (h2 : b ≤ 7) (h : k + b ≤ l.length) (hl : l.length ≤ 1152921504606846976) : Calls Try.prog 20 #[.string (bsL l), .int .i64 (k : Int), .int .i64 (b : Int)] w fun e w' => e = .returned (.int .i64 (numL ((l.drop k).take b) : Int)) ∧ Below w.heap.size w w' := by
  have D := bsL_drop l k
  rw [bsL_size] at D
  have hd : (l.drop k).length = l.length - k := by simp
  have HD : Hid (b ≤ (l.drop k).length) := by show b ≤ (l.drop k).length; omega
  clear hd
  go_enter Try.func20, Try.ntmps20
  go_wp2_with fail
  refine (take_ok (l.drop k) b _ h1 h2 HD.out).mono ?_
  rintro e w1 ⟨rfl, b1⟩
  go_wp2_with fail
  go_ret
  exact ⟨rfl, b1⟩
set_option maxHeartbeats 800000 in
theorem data_any (K : Int) (D : List UInt8) (w : World) : Calls Try.prog 39 #[.agg #[.int .i64 K, .string (bsL D)]] w (TellsB w (dataP K D.length)) := by
  have B1 : Hid (Below w.heap.size w (w.alloc (.cells #[.int .i64 K, .string (bsL D)] 49))) := bel_alloc _ _
  by_cases hk : K = 44
  · subst hk
    have E : Hid (((D.length : Int) == 7) = true ↔ dataP 44 D.length) := by
      show _ ↔ _
      unfold dataP
      simp
      omega
    go_enter Try.func39, Try.ntmps39
    go_wp2
    go_ret
    exact ⟨_, rfl, E.out, B1.out⟩
  have qk : (K == 44) = false := by simpa using hk
  have HK : Hid (K ≠ 44) := hk
  clear hk
  have NO : Hid (∀ (h : ¬ (6 ≤ D.length ∧ D.length ≤ 2046 ∧ D.length % 8 = 6)), (false = true ↔ dataP K D.length)) := fun h => ⟨fun e => (by cases e), fun e => absurd (e.2 HK.out) h⟩
  by_cases h6 : (6 : Int) ≤ D.length
  rotate_left
  · go_enter Try.func39, Try.ntmps39
    go_wp2
    go_ret
    exact ⟨false, rfl, NO.out (by omega), B1.out⟩
  by_cases h7 : (D.length : Int) ≤ 2046
  rotate_left
  · go_enter Try.func39, Try.ntmps39
    go_wp2
    go_ret
    exact ⟨false, rfl, NO.out (by omega), B1.out⟩
  by_cases h8 : D.length % 8 = 6
  · have q8 : (((D.length : Int) - 6) % 8 == 0) = true := by simp; omega
    have YES : Hid (dataP K D.length) := ⟨fun e => absurd e HK.out, fun _ => by omega⟩
    clear h8
    go_enter Try.func39, Try.ntmps39
    go_wp2
    go_ret
    exact ⟨true, rfl, ⟨fun _ => YES.out, fun _ => rfl⟩, B1.out⟩
  · have q8 : (((D.length : Int) - 6) % 8 == 0) = false := by simp; omega
    have NO2 : Hid (false = true ↔ dataP K D.length) := NO.out (by omega)
    clear h8
    go_enter Try.func39, Try.ntmps39
    go_wp2
    go_ret
    exact ⟨false, rfl, NO2.out, B1.out⟩
theorem one_cell (w : World) (M : Nat) (h : M < 256) (j : Nat) (hj : j < (bytesL M 1).length) : (w.alloc (.cells #[.int .u8 (M : Int)] 5)).cell? ((⟨w.heap.size, 0, none⟩ : Addr).add j) = some (.int .u8 ((bytesL M 1)[j].toNat : Int)) := by
  have e : j = 0 := by rw [bytesL_len] at hj; omega
  subst e
  rw [Addr.add_lit, Nat.zero_add, (Blk.new w 5 #[.int .u8 (M : Int)]).cell 0]
  simp only [one_is M h]
  rw [List.getElem_singleton, UInt8.toNat_ofNat_of_lt' h]
  rfl
set_option maxHeartbeats 800000 in
theorem rone_any (N : Nat) (w : World) (h : N < 256) : Calls Try.prog 32 #[.int .i64 (N : Int)] w fun e w' => e = .returned (.string (bsL (bytesL N 1))) ∧ Below w.heap.size w w' := by
  have hback := run_convert_bytes_back (P := Try.prog) (w.alloc (.cells #[.int .u8 (N : Int)] 5)) 45 9 5 ⟨w.heap.size, 0, none⟩ 1 (bytesL N 1) Try.underlying45 Try.underlying5 Try.underlying9 (one_cell w N h)
  rw [bytesL_len] at hback
  go_enter Try.func32, Try.ntmps32
  go_wp2_with fail
  go_ret
  exact ⟨rfl, (Below.refl _ _).alloc (Nat.le_refl _) _⟩
theorem two_cells (w : World) (M : Nat) (h : M < 65536) (j : Nat) (hj : j < (bytesL M 2).length) : (w.alloc (.cells #[.int .u8 ((M : Int) / 256), .int .u8 ((M : Int) % 256)] 5)).cell? ((⟨w.heap.size, 0, none⟩ : Addr).add j) = some (.int .u8 ((bytesL M 2)[j].toNat : Int)) := by
  have hc := World.rowIs.cell (World.rowIs_alloc w #[.int .u8 ((M : Int) / 256), .int .u8 ((M : Int) % 256)] 5 (fun i => if i = 0 then .int .u8 ((M : Int) / 256) else .int .u8 ((M : Int) % 256)) (fun i hi => by
    simp at hi
    have e : i = 0 ∨ i = 1 := by omega
    rcases e with rfl | rfl <;> rfl)) (i := j) (by simpa [bytesL_len] using hj)
  rw [Addr.add_lit, Nat.zero_add, hc]
  rw [bytesL_len] at hj
  have e : j = 0 ∨ j = 1 := by omega
  rcases e with rfl | rfl
  · simp only [bytes_two]
    simp
    omega
  · simp only [bytes_two]
    simp
set_option maxHeartbeats 800000 in
theorem rtwo_any (N : Nat) (w : World) (h : N < 65536) : Calls Try.prog 33 #[.int .i64 (N : Int)] w fun e w' => e = .returned (.string (bsL (bytesL N 2))) ∧ Below w.heap.size w w' := by
  have hback := run_convert_bytes_back (P := Try.prog) (w.alloc (.cells #[.int .u8 ((N : Int) / 256), .int .u8 ((N : Int) % 256)] 5)) 45 9 5 ⟨w.heap.size, 0, none⟩ 2 (bytesL N 2) Try.underlying45 Try.underlying5 Try.underlying9 (two_cells w N h)
  rw [bytesL_len] at hback
  go_enter Try.func33, Try.ntmps33
  go_wp2_with fail
  go_ret
  exact ⟨rfl, (Below.refl _ _).alloc (Nat.le_refl _) _⟩
end Go.Proofs.Ytjbpbahaekbmlaa
