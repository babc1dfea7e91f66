
/-
  Headers of version 4 on lists of bytes: plain mathematics, nothing of the program is in this text.
-/
import Derived.Test.YticopigpgaomjaaOctNum
namespace Go.Proofs.Yticopigpgaomjaa.Ip4
open Oc

structure Hd where
  tos : Int
  id : Int
  flags : Int
  off : Int
  ttl : Int
  proto : Int
  src : List UInt8
  dst : List UInt8
  opts : List UInt8
def RightP (H : Hd) : Prop := (0 ≤ H.tos ∧ H.tos ≤ 255) ∧ (0 ≤ H.ttl ∧ H.ttl ≤ 255) ∧ (0 ≤ H.proto ∧ H.proto ≤ 255) ∧ (0 ≤ H.id ∧ H.id ≤ 65535) ∧ (0 ≤ H.flags ∧ H.flags ≤ 7) ∧ (0 ≤ H.off ∧ H.off ≤ 8191) ∧ H.src.length = 4 ∧ H.dst.length = 4 ∧ H.opts.length ≤ 40 ∧ H.opts.length % 4 = 0
def zeroHd : Hd := ⟨0, 0, 0, 0, 0, 0, [], [], []⟩

/-! ### Bytes at places -/
theorem atL_left {a b : List UInt8} {i : Nat} (h : i < a.length) : atL (a ++ b) i = atL a i := by unfold atL; rw [List.getElem?_append_left h]
theorem atL_right {a b : List UInt8} {i : Nat} (h : a.length ≤ i) : atL (a ++ b) i = atL b (i - a.length) := by unfold atL; rw [List.getElem?_append_right h]
theorem atL_take {l : List UInt8} {n i : Nat} (h : i < n) : atL (l.take n) i = atL l i := by unfold atL; rw [List.getElem?_take_of_lt h]
theorem pairL_left {a b : List UInt8} {i : Nat} (h : i + 1 < a.length) : pairL (a ++ b) i = pairL a i := by unfold pairL; rw [atL_left (by omega), atL_left (by omega)]
theorem pairL_take {l : List UInt8} {n i : Nat} (h : i + 1 < n) : pairL (l.take n) i = pairL l i := by unfold pairL; rw [atL_take (by omega), atL_take (by omega)]
theorem drop_at (l : List UInt8) (i : Nat) (h : i < l.length) : l.drop i = l[i]'h :: l.drop (i + 1) := List.drop_eq_getElem_cons h
theorem num_one (l : List UInt8) (k : Nat) (h : k + 1 ≤ l.length) : numL ((l.drop k).take 1) = atL l k := by
  rw [drop_at l k (by omega), List.take_succ_cons, List.take_zero, numL_cons, numL_nil, atL_get]
  simp
theorem num_two (l : List UInt8) (k : Nat) (h : k + 2 ≤ l.length) : numL ((l.drop k).take 2) = pairL l k := by
  rw [drop_at l k (by omega), drop_at l (k + 1) (by omega), List.take_succ_cons, List.take_succ_cons, List.take_zero, numL_cons, numL_cons, numL_nil, atL_get, atL_get]
  simp only [List.length_cons, List.length_nil, pairL]
  omega

/-! ### What is taken -/
def szL (l : List UInt8) : Nat := 4 * (atL l 0 % 16)
def lenL (l : List UInt8) : Nat := pairL l 2
def takeE (l : List UInt8) : Nat :=
  if l.length < 20 then 2 else if atL l 0 / 16 ≠ 4 then 10 else if szL l < 20 ∨ l.length < szL l then 11 else if lenL l < szL l ∨ l.length < lenL l then 13 else if sumL (l.take (szL l)) ≠ 0 then 12 else 0
/-- All is well with these bytes. -/
def Fine (l : List UInt8) : Prop := 20 ≤ l.length ∧ atL l 0 / 16 = 4 ∧ 20 ≤ szL l ∧ szL l ≤ l.length ∧ szL l ≤ lenL l ∧ lenL l ≤ l.length ∧ sumL (l.take (szL l)) = 0
theorem fine_iff (l : List UInt8) : takeE l = 0 ↔ Fine l := by
  unfold takeE Fine
  constructor
  · intro h
    split at h
    · cases h
    · split at h
      · cases h
      · split at h
        · cases h
        · split at h
          · cases h
          · split at h
            · cases h
            · rename_i h1 h2 h3 h4 h5
              refine ⟨by omega, by omega, by omega, by omega, by omega, by omega, ?_⟩
              exact Classical.byContradiction fun h => h5 h
  · rintro ⟨h1, h2, h3, h4, h5, h6, h7⟩
    rw [if_neg (by omega), if_neg (by omega), if_neg (by omega), if_neg (by omega), if_neg (by simp [h7])]
def readF (q : List UInt8) : Hd := ⟨atL q 1, pairL q 4, (pairL q 6 / 8192 : Nat), (pairL q 6 % 8192 : Nat), atL q 8, atL q 9, (q.drop 12).take 4, (q.drop 16).take 4, q.drop 20⟩
def hdOf (l : List UInt8) : Hd := if takeE l = 0 then readF (l.take (szL l)) else zeroHd
def bodyOf (l : List UInt8) : List UInt8 := if takeE l = 0 then (l.drop (szL l)).take (lenL l - szL l) else []
theorem of_fine {l : List UInt8} (h : Fine l) : takeE l = 0 ∧ hdOf l = readF (l.take (szL l)) ∧ bodyOf l = (l.drop (szL l)).take (lenL l - szL l) := by
  have e := (fine_iff l).2 h
  refine ⟨e, ?_, ?_⟩
  · unfold hdOf; rw [if_pos e]
  · unfold bodyOf; rw [if_pos e]
theorem of_err {l : List UInt8} (h : takeE l ≠ 0) : hdOf l = zeroHd ∧ bodyOf l = [] := by
  constructor
  · unfold hdOf; rw [if_neg h]
  · unfold bodyOf; rw [if_neg h]
theorem read_take (l : List UInt8) (n : Nat) (h : 20 ≤ n) : readF (l.take n) = ⟨atL l 1, pairL l 4, (pairL l 6 / 8192 : Nat), (pairL l 6 % 8192 : Nat), atL l 8, atL l 9, (l.drop 12).take 4, (l.drop 16).take 4, (l.drop 20).take (n - 20)⟩ := by
  unfold readF
  rw [atL_take (by omega), atL_take (by omega), atL_take (by omega), pairL_take (by omega), pairL_take (by omega)]
  simp only [List.drop_take, List.take_take]
  rw [Nat.min_eq_left (by omega), Nat.min_eq_left (by omega)]
theorem read_right (q : List UInt8) (h : 20 ≤ q.length) (h2 : q.length ≤ 60) (h4 : q.length % 4 = 0) : RightP (readF q) := by
  have a1 := atL_lt q 1
  have a2 := atL_lt q 8
  have a3 := atL_lt q 9
  have p1 := pairL_lt q 4
  have p2 := pairL_lt q 6
  unfold RightP readF
  simp only [List.length_take, List.length_drop]
  omega
theorem fine_right {l : List UInt8} (h : Fine l) : RightP (hdOf l) := by
  obtain ⟨_, e, _⟩ := of_fine h
  obtain ⟨h1, h2, h3, h4, _⟩ := h
  have hs : szL l = 4 * (atL l 0 % 16) := rfl
  rw [e]
  have hl : (l.take (szL l)).length = szL l := by simp; omega
  exact read_right _ (by omega) (by omega) (by omega)
/-- What stands behind turns nothing. -/
theorem fine_more {l : List UInt8} (h : Fine l) (m : List UInt8) : Fine (l ++ m) ∧ hdOf (l ++ m) = hdOf l ∧ bodyOf (l ++ m) = bodyOf l := by
  obtain ⟨e0, e1, e2⟩ := of_fine h
  have h' := h
  obtain ⟨h1, h2, h3, h4, h5, h6, h7⟩ := h
  have s0 : szL (l ++ m) = szL l := by unfold szL; rw [atL_left (by omega)]
  have l0 : lenL (l ++ m) = lenL l := by unfold lenL; rw [pairL_left (by omega)]
  have t0 : (l ++ m).take (szL l) = l.take (szL l) := List.take_append_of_le_length h4
  have f : Fine (l ++ m) := by
    refine ⟨by simp; omega, by rw [atL_left (by omega)]; exact h2, by rw [s0]; exact h3, by rw [s0]; simp; omega, by rw [s0, l0]; exact h5, by rw [l0]; simp; omega, by rw [s0, t0]; exact h7⟩
  obtain ⟨_, g1, g2⟩ := of_fine f
  refine ⟨f, ?_, ?_⟩
  · rw [g1, e1, s0, t0]
  · rw [g2, e2, s0, l0, List.drop_append_of_le_length h4, List.take_append_of_le_length (by simp; omega)]

/-! ### What is written -/
def B (n : Nat) : UInt8 := UInt8.ofNat n
theorem B_lt {n : Nat} (h : n < 256) : (B n).toNat = n := UInt8.toNat_ofNat_of_lt' h
theorem one_is (n : Nat) : bytesL n 1 = [B (n % 256)] := by simp [bytesL, B]
theorem two_is (n : Nat) : bytesL n 2 = [B (n / 256 % 256), B (n % 256)] := by simp [bytesL, B]
/-- The ten bytes ahead of the sum; A: the first byte; n: the length. -/
def frontL (A T n I F L P : Nat) : List UInt8 := bytesL A 1 ++ bytesL T 1 ++ bytesL n 2 ++ bytesL I 2 ++ bytesL F 2 ++ bytesL L 1 ++ bytesL P 1
theorem front_is (A T n I F L P : Nat) : frontL A T n I F L P = [B (A % 256), B (T % 256), B (n / 256 % 256), B (n % 256), B (I / 256 % 256), B (I % 256), B (F / 256 % 256), B (F % 256), B (L % 256), B (P % 256)] := by
  unfold frontL
  simp only [one_is, two_is, List.cons_append, List.nil_append]
theorem front_len (A T n I F L P : Nat) : (frontL A T n I F L P).length = 10 := by rw [front_is]; rfl
def headS (A T n I F L P S : Nat) (s d q : List UInt8) : List UInt8 := frontL A T n I F L P ++ bytesL S 2 ++ (s ++ d ++ q)
def sum0 (A T n I F L P : Nat) (s d q : List UInt8) : Nat := sumL (headS A T n I F L P 0 s d q)
/-- A right header's bytes, ahead of so many of its body. -/
def headL (T I F O L P : Nat) (s d q : List UInt8) (b : Nat) : List UInt8 :=
  headS (64 + (20 + q.length) / 4) T (20 + q.length + b) I (8192 * F + O) L P (sum0 (64 + (20 + q.length) / 4) T (20 + q.length + b) I (8192 * F + O) L P s d q) s d q
theorem headS_len (A T n I F L P S : Nat) (s d q : List UInt8) : (headS A T n I F L P S s d q).length = 12 + (s.length + d.length + q.length) := by
  unfold headS; simp only [List.length_append, front_len, bytesL_len]
theorem pairs_head (A T n I F L P S : Nat) (s d q : List UInt8) (h : S < 65536) : pairs (headS A T n I F L P S s d q) = pairs (frontL A T n I F L P) + S + pairs (s ++ d ++ q) := by
  unfold headS
  rw [pairs_append _ _ (by simp [front_len, bytesL_len]), pairs_append _ _ (by simp [front_len])]
  have e : pairs (bytesL S 2) = S := by
    rw [two_is]
    simp only [pairs]
    rw [B_lt (by omega), B_lt (by omega)]
    omega
  rw [e]
theorem nought (t : Nat) : wrapS (t + (65535 - wrapS t)) = 65535 := by
  unfold wrapS
  split <;> split <;> omega
theorem sum0_lt (A T n I F L P : Nat) (s d q : List UInt8) : sum0 A T n I F L P s d q < 65536 := by
  have := sumL_le (headS A T n I F L P 0 s d q)
  unfold sum0; omega
theorem head_sum (A T n I F L P : Nat) (s d q : List UInt8) : sumL (headS A T n I F L P (sum0 A T n I F L P s d q) s d q) = 0 := by
  have hs := sum0_lt A T n I F L P s d q
  have e : sumL (headS A T n I F L P (sum0 A T n I F L P s d q) s d q) = 65535 - wrapS (pairs (headS A T n I F L P (sum0 A T n I F L P s d q) s d q)) := rfl
  rw [e, pairs_head _ _ _ _ _ _ _ _ _ _ _ hs]
  have e2 : sum0 A T n I F L P s d q = 65535 - wrapS (pairs (frontL A T n I F L P) + pairs (s ++ d ++ q)) := by
    show 65535 - wrapS (pairs (headS A T n I F L P 0 s d q)) = _
    rw [pairs_head _ _ _ _ _ _ _ _ _ _ _ (by omega)]
    simp
  rw [e2, Nat.add_right_comm, nought]
theorem head_at (A T n I F L P S : Nat) (s d q m : List UInt8) (i : Nat) (h : i < 10) : atL (headS A T n I F L P S s d q ++ m) i = atL (frontL A T n I F L P) i := by
  unfold headS
  rw [List.append_assoc, List.append_assoc, atL_left (by rw [front_len]; exact h)]
theorem cons_at0 (a : UInt8) (l : List UInt8) : atL (a :: l) 0 = a.toNat := rfl
theorem cons_at (a : UInt8) (l : List UInt8) (i : Nat) : atL (a :: l) (i + 1) = atL l i := by unfold atL; simp
/-- What is written is taken back, whatever stands behind. -/
theorem back {T I F O L P : Nat} {s d q : List UInt8} (h : RightP ⟨T, I, F, O, L, P, s, d, q⟩) (b m : List UInt8) (hb : 20 + q.length + b.length < 65536) :
    Fine (headL T I F O L P s d q b.length ++ b ++ m) ∧ hdOf (headL T I F O L P s d q b.length ++ b ++ m) = ⟨T, I, F, O, L, P, s, d, q⟩ ∧ bodyOf (headL T I F O L P s d q b.length ++ b ++ m) = b := by
  obtain ⟨r1, r2, r3, r4, r5, r6, r7, r8, r9, r10⟩ := h
  simp only at r1 r2 r3 r4 r5 r6 r7 r8 r9 r10
  have HS : sumL (headL T I F O L P s d q b.length) = 0 := head_sum _ _ _ _ _ _ _ _ _ _
  have HL : (headL T I F O L P s d q b.length).length = 20 + q.length := by unfold headL; rw [headS_len]; omega
  have HA : ∀ i, i < 10 → ∀ m, atL (headL T I F O L P s d q b.length ++ m) i = atL (frontL (64 + (20 + q.length) / 4) T (20 + q.length + b.length) I (8192 * F + O) L P) i := fun i hi m => head_at _ _ _ _ _ _ _ _ _ _ _ _ _ hi
  have HD : headL T I F O L P s d q b.length = (frontL (64 + (20 + q.length) / 4) T (20 + q.length + b.length) I (8192 * F + O) L P ++ bytesL (sum0 (64 + (20 + q.length) / 4) T (20 + q.length + b.length) I (8192 * F + O) L P s d q) 2) ++ (s ++ d ++ q) := rfl
  rw [front_is] at HA
  have HD12 : ∀ m, (headL T I F O L P s d q b.length ++ m).drop 12 = s ++ (d ++ (q ++ m)) := fun m => by
    rw [HD]
    rw [List.append_assoc]
    rw [List.drop_append_of_le_length (by simp [front_len, bytesL_len]), List.drop_of_length_le (by simp [front_len, bytesL_len])]
    simp
  generalize headL T I F O L P s d q b.length = Z at HS HL HA HD12
  rw [List.append_assoc]
  have A0 : atL (Z ++ (b ++ m)) 0 = 64 + (20 + q.length) / 4 := by rw [HA 0 (by omega), cons_at0, B_lt (by omega)]; omega
  have A1 : atL (Z ++ (b ++ m)) 1 = T := by rw [HA 1 (by omega), cons_at, cons_at0, B_lt (by omega)]; omega
  have A2 : atL (Z ++ (b ++ m)) 2 = (20 + q.length + b.length) / 256 := by rw [HA 2 (by omega)]; simp only [cons_at, cons_at0]; rw [B_lt (by omega)]; omega
  have A3 : atL (Z ++ (b ++ m)) 3 = (20 + q.length + b.length) % 256 := by rw [HA 3 (by omega)]; simp only [cons_at, cons_at0]; rw [B_lt (by omega)]
  have A4 : atL (Z ++ (b ++ m)) 4 = I / 256 := by rw [HA 4 (by omega)]; simp only [cons_at, cons_at0]; rw [B_lt (by omega)]; omega
  have A5 : atL (Z ++ (b ++ m)) 5 = I % 256 := by rw [HA 5 (by omega)]; simp only [cons_at, cons_at0]; rw [B_lt (by omega)]
  have A6 : atL (Z ++ (b ++ m)) 6 = (8192 * F + O) / 256 := by rw [HA 6 (by omega)]; simp only [cons_at, cons_at0]; rw [B_lt (by omega)]; omega
  have A7 : atL (Z ++ (b ++ m)) 7 = (8192 * F + O) % 256 := by rw [HA 7 (by omega)]; simp only [cons_at, cons_at0]; rw [B_lt (by omega)]
  have A8 : atL (Z ++ (b ++ m)) 8 = L := by rw [HA 8 (by omega)]; simp only [cons_at, cons_at0]; rw [B_lt (by omega)]; omega
  have A9 : atL (Z ++ (b ++ m)) 9 = P := by rw [HA 9 (by omega)]; simp only [cons_at, cons_at0]; rw [B_lt (by omega)]; omega
  have S0 : szL (Z ++ (b ++ m)) = 20 + q.length := by unfold szL; rw [A0]; omega
  have L0 : lenL (Z ++ (b ++ m)) = 20 + q.length + b.length := by unfold lenL pairL; rw [A2, A3]; omega
  have T0 : (Z ++ (b ++ m)).take (20 + q.length) = Z := by rw [← HL, List.take_left]
  have fine : Fine (Z ++ (b ++ m)) := by
    refine ⟨by simp; omega, by rw [A0]; omega, by omega, by rw [S0]; simp; omega, by omega, by rw [L0]; simp; omega, by rw [S0, T0]; exact HS⟩
  obtain ⟨_, e1, e2⟩ := of_fine fine
  refine ⟨fine, ?_, ?_⟩
  · rw [e1, S0, read_take _ _ (by omega)]
    have d12 := HD12 (b ++ m)
    have d16 : (Z ++ (b ++ m)).drop 16 = d ++ (q ++ (b ++ m)) := by
      rw [show 16 = 12 + 4 from rfl, ← List.drop_drop, d12, ← r7, List.drop_left]
    have d20 : (Z ++ (b ++ m)).drop 20 = q ++ (b ++ m) := by
      rw [show 20 = 16 + 4 from rfl, ← List.drop_drop, d16, ← r8, List.drop_left]
    have p4 : pairL (Z ++ (b ++ m)) 4 = I := by unfold pairL; rw [A4, A5]; omega
    have p6 : pairL (Z ++ (b ++ m)) 6 = 8192 * F + O := by unfold pairL; rw [A6, A7]; omega
    rw [A1, A8, A9, p4, p6, d12, d16, d20, show (8192 * F + O) / 8192 = F by omega, show (8192 * F + O) % 8192 = O by omega, ← r7, List.take_left, r7, ← r8, List.take_left, Nat.add_sub_cancel_left, List.take_left]
  · rw [e2, S0, L0, ← HL, List.drop_left, Nat.add_sub_cancel_left, List.take_left]

/-! ### A byte that is turned -/
theorem pairs_set : ∀ (l : List UInt8) (i : Nat) (c : UInt8), i < l.length → pairs (l.set i c) + (if i % 2 = 0 then 256 else 1) * atL l i = pairs l + (if i % 2 = 0 then 256 else 1) * c.toNat
  | [], i, c, h => by simp at h
  | [a], i, c, h => by
    have e : i = 0 := by simp at h; exact h
    subst e
    simp [pairs, atL]; omega
  | a :: b :: l, 0, c, h => by simp [pairs, atL]; omega
  | a :: b :: l, 1, c, h => by simp [pairs, atL]; omega
  | a :: b :: l, i + 2, c, h => by
    have ih := pairs_set l i c (by simp at h; omega)
    have e : (i + 2) % 2 = i % 2 := by omega
    rw [e]
    simp only [List.set_cons_succ, pairs, cons_at]
    omega
theorem sum_zero {l : List UInt8} (h : sumL l = 0) : pairs l % 65535 = 0 := by
  unfold sumL wrapS at h
  split at h
  · omega
  · omega
theorem set_sum {l : List UInt8} {i : Nat} {c : UInt8} (hi : i < l.length) (hc : c.toNat ≠ atL l i) (h : sumL l = 0) : sumL (l.set i c) ≠ 0 := by
  intro h2
  have a := sum_zero h
  have b := sum_zero h2
  have k := pairs_set l i c hi
  have l1 := atL_lt l i
  have l2 := c.toNat_lt
  split at k <;> omega
theorem atL_set_ne {l : List UInt8} {i j : Nat} {c : UInt8} (h : i ≠ j) : atL (l.set i c) j = atL l j := by unfold atL; rw [List.getElem?_set_ne h]
theorem turned {T I F O L P : Nat} {s d q : List UInt8} (h : RightP ⟨T, I, F, O, L, P, s, d, q⟩) (b : List UInt8) (hb : 20 + q.length + b.length < 65536) {i : Nat} {c : UInt8} (hi : i < 20 + q.length) (hc : c.toNat ≠ atL (headL T I F O L P s d q b.length ++ b) i) :
    takeE ((headL T I F O L P s d q b.length ++ b).set i c) ≠ 0 ∨ ∃ q', hdOf ((headL T I F O L P s d q b.length ++ b).set i c) = ⟨T, I, F, O, L, P, s, d, q'⟩ ∧ q'.length ≠ q.length := by
  have bk := back h b [] hb
  rw [List.append_nil] at bk
  obtain ⟨f, e1, _⟩ := bk
  have ql : (hdOf (headL T I F O L P s d q b.length ++ b)).opts = q := by rw [e1]
  generalize headL T I F O L P s d q b.length ++ b = Z at f e1 hc ql
  obtain ⟨_, g1, g2⟩ := of_fine f
  obtain ⟨h1, h2, h3, h4, h5, h6, h7⟩ := f
  rw [g1, read_take _ _ h3] at e1 ql
  have hs : szL Z = 20 + q.length := by
    have := congrArg List.length ql
    simp only [List.length_take, List.length_drop] at this
    omega
  by_cases hz : takeE (Z.set i c) = 0
  · right
    have f2 := (fine_iff _).1 hz
    obtain ⟨_, k1, k2⟩ := of_fine f2
    obtain ⟨j1, j2, j3, j4, j5, j6, j7⟩ := f2
    by_cases i0 : i = 0
    · subst i0
      rw [k1, read_take _ _ j3, atL_set_ne (by omega), atL_set_ne (by omega), atL_set_ne (by omega)]
      have p : ∀ k, 1 ≤ k → pairL (Z.set 0 c) k = pairL Z k := fun k hk => by unfold pairL; rw [atL_set_ne (by omega), atL_set_ne (by omega)]
      have dd : ∀ k, 1 ≤ k → (Z.set 0 c).drop k = Z.drop k := fun k hk => List.drop_set_of_lt (by omega)
      rw [p 4 (by omega), p 6 (by omega), dd 12 (by omega), dd 16 (by omega), dd 20 (by omega)]
      have e3 := Hd.mk.inj e1
      obtain ⟨x1, x2, x3, x4, x5, x6, x7, x8, x9⟩ := e3
      rw [x1, x2, x3, x4, x5, x6, x7, x8]
      refine ⟨_, rfl, ?_⟩
      have sz' : szL (Z.set 0 c) = 4 * (c.toNat % 16) := by
        unfold szL atL
        rw [List.getElem?_set_self (by omega)]
        rfl
      have j2' : c.toNat / 16 = 4 := by
        have : atL (Z.set 0 c) 0 = c.toNat := by unfold atL; rw [List.getElem?_set_self (by omega)]; rfl
        rw [this] at j2; exact j2
      have sz0 : szL Z = 4 * (atL Z 0 % 16) := rfl
      rw [List.length_set] at j4
      simp only [List.length_take, List.length_drop]
      omega
    · exfalso
      have s0 : szL (Z.set i c) = szL Z := by unfold szL; rw [atL_set_ne i0]
      rw [s0, List.take_set] at j7
      have lt : (Z.take (szL Z)).length = szL Z := by simp; omega
      exact set_sum (by omega) (by rw [atL_take (by omega)]; exact hc) h7 j7
  · left; exact hz
end Go.Proofs.Yticopigpgaomjaa.Ip4
