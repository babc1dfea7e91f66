
/-
  Frames of Ethernet on lists of bytes: plain mathematics, nothing of the program is in this text.
-/
import Derived.Test.YticopigpgaomjaaOctNum
namespace Go.Proofs.Yticopigpgaomjaa.Et
open Oc

/-- A tag's Kind; a number of two bytes. -/
def isK (n : Int) : Bool := n == 33024 || n == 34984
def isN (n : Int) : Bool := decide (0 ≤ n) && decide (n ≤ 65535)
theorem isN_iff {n : Int} : isN n = true ↔ 0 ≤ n ∧ n ≤ 65535 := by simp [isN]
/-- A frame's head: its tags are as many as n, of Kinds K and Values V. -/
structure Fr where
  d : List UInt8
  s : List UInt8
  n : Nat
  K : Nat → Int
  V : Nat → Int
  T : Int
def RightP (F : Fr) : Prop := F.d.length = 6 ∧ F.s.length = 6 ∧ F.n ≤ 2 ∧ (∀ i, i < F.n → isK (F.K i) = true ∧ isN (F.V i) = true) ∧ isN F.T = true ∧ isK F.T = false
def tagsL (F : Fr) : Nat → List UInt8
  | 0 => []
  | k + 1 => tagsL F k ++ (bytesL (F.K k).toNat 2 ++ bytesL (F.V k).toNat 2)
def headL (F : Fr) : List UInt8 := F.d ++ F.s ++ tagsL F F.n ++ bytesL F.T.toNat 2
def kindAt (l : List UInt8) (i : Nat) : Nat := pairL l (12 + 4 * i)
def valAt (l : List UInt8) (i : Nat) : Nat := pairL l (14 + 4 * i)
/-- The error of Take, and the number of tags. -/
def takeE (l : List UInt8) : Nat :=
  if l.length < 14 then 2 else if isK (kindAt l 0) = false then 0 else if l.length < 18 then 2 else if isK (kindAt l 1) = false then 0 else if l.length < 22 then 2 else if isK (kindAt l 2) = false then 0 else 9
def takeN (l : List UInt8) : Nat := if isK (kindAt l 0) = false then 0 else if isK (kindAt l 1) = false then 1 else 2
def zeroFr : Fr := ⟨[], [], 0, fun _ => 0, fun _ => 0, 0⟩
def frOf (l : List UInt8) : Fr := if takeE l = 0 then ⟨l.take 6, (l.drop 6).take 6, takeN l, fun i => kindAt l i, fun i => valAt l i, kindAt l (takeN l)⟩ else zeroFr
def restOf (l : List UInt8) : List UInt8 := if takeE l = 0 then l.drop (14 + 4 * takeN l) else []
/-- So many tags were taken. -/
def OkAt (l : List UInt8) (k : Nat) : Prop := 12 + 4 * k ≤ l.length ∧ k ≤ 2 ∧ ∀ i, i < k → isK (kindAt l i) = true
theorem okAt_zero {l : List UInt8} (h : 12 ≤ l.length) : OkAt l 0 := ⟨h, by omega, fun i hi => by omega⟩
theorem take_less {l : List UInt8} (h : l.length < 12) : takeE l = 2 := by unfold takeE; rw [if_pos (by omega)]
theorem cases2 {k : Nat} (h : k ≤ 2) : k = 0 ∨ k = 1 ∨ k = 2 := by omega
theorem take_short1 {l : List UInt8} {k : Nat} (h : OkAt l k) (h1 : l.length < 14 + 4 * k) : takeE l = 2 := by
  obtain ⟨a, b, c⟩ := h
  unfold takeE
  rcases cases2 b with rfl | rfl | rfl
  · rw [if_pos (by omega)]
  · have c0 := c 0 (by omega)
    rw [if_neg (by omega), c0, if_neg (by simp), if_pos (by omega)]
  · have c0 := c 0 (by omega)
    have c1 := c 1 (by omega)
    rw [if_neg (by omega), c0, if_neg (by simp), if_neg (by omega), c1, if_neg (by simp), if_pos (by omega)]
theorem take_done {l : List UInt8} {k : Nat} (h : OkAt l k) (h1 : 14 + 4 * k ≤ l.length) (h2 : isK (kindAt l k) = false) : takeE l = 0 ∧ takeN l = k := by
  obtain ⟨a, b, c⟩ := h
  unfold takeE takeN
  rcases cases2 b with rfl | rfl | rfl
  · rw [if_neg (by omega), h2]; simp
  · have c0 := c 0 (by omega)
    rw [if_neg (by omega), c0, if_neg (by simp), if_neg (by omega), h2]; simp
  · have c0 := c 0 (by omega)
    have c1 := c 1 (by omega)
    rw [if_neg (by omega), c0, if_neg (by simp), if_neg (by omega), c1, if_neg (by simp), if_neg (by omega), h2]; simp
theorem take_more {l : List UInt8} (h : OkAt l 2) (h1 : 22 ≤ l.length) (h2 : isK (kindAt l 2) = true) : takeE l = 9 := by
  obtain ⟨a, b, c⟩ := h
  have c0 := c 0 (by omega)
  have c1 := c 1 (by omega)
  unfold takeE
  rw [if_neg (by omega), c0, if_neg (by simp), if_neg (by omega), c1, if_neg (by simp), if_neg (by omega), h2]; simp
theorem okAt_succ {l : List UInt8} {k : Nat} (h : OkAt l k) (hk : k < 2) (h1 : 16 + 4 * k ≤ l.length) (h2 : isK (kindAt l k) = true) : OkAt l (k + 1) := by
  obtain ⟨a, b, c⟩ := h
  refine ⟨by omega, by omega, fun i hi => ?_⟩
  by_cases e : i = k
  · rw [e]; exact h2
  · exact c i (by omega)
theorem take_short2 {l : List UInt8} {k : Nat} (h : OkAt l k) (hk : k < 2) (h0 : 14 + 4 * k ≤ l.length) (h1 : l.length < 16 + 4 * k) (h2 : isK (kindAt l k) = true) : takeE l = 2 := by
  obtain ⟨a, b, c⟩ := h
  unfold takeE
  have e : k = 0 ∨ k = 1 := by omega
  rcases e with rfl | rfl
  · rw [if_neg (by omega), h2, if_neg (by simp), if_pos (by omega)]
  · have c0 := c 0 (by omega)
    rw [if_neg (by omega), c0, if_neg (by simp), if_neg (by omega), h2, if_neg (by simp), if_pos (by omega)]
theorem fr_err {l : List UInt8} (h : takeE l ≠ 0) : frOf l = zeroFr ∧ restOf l = [] := by
  unfold frOf restOf; rw [if_neg h, if_neg h]; exact ⟨rfl, rfl⟩
theorem fr_ok {l : List UInt8} {k : Nat} (h : takeE l = 0 ∧ takeN l = k) : frOf l = ⟨l.take 6, (l.drop 6).take 6, k, fun i => kindAt l i, fun i => valAt l i, kindAt l k⟩ ∧ restOf l = l.drop (14 + 4 * k) := by
  unfold frOf restOf; rw [if_pos h.1, if_pos h.1, h.2]; exact ⟨rfl, rfl⟩
/-- What a Take without error has found. -/
theorem done_of {l : List UInt8} (h : takeE l = 0) : ∃ k, OkAt l k ∧ 14 + 4 * k ≤ l.length ∧ isK (kindAt l k) = false ∧ takeN l = k := by
  unfold takeE at h
  split at h
  · cases h
  next h14 =>
  split at h
  next c0 => exact ⟨0, okAt_zero (by omega), by omega, c0, by unfold takeN; rw [if_pos c0]⟩
  next c0 =>
  have c0' : isK (kindAt l 0) = true := by simpa using c0
  split at h
  · cases h
  next h18 =>
  have o1 : OkAt l 1 := okAt_succ (okAt_zero (by omega)) (by omega) (by omega) c0'
  split at h
  next c1 => exact ⟨1, o1, by omega, c1, by unfold takeN; rw [if_neg c0, if_pos c1]⟩
  next c1 =>
  have c1' : isK (kindAt l 1) = true := by simpa using c1
  split at h
  · cases h
  next h22 =>
  split at h
  next c2 => exact ⟨2, okAt_succ o1 (by omega) (by omega) c1', by omega, c2, by unfold takeN; rw [if_neg c0, if_neg c1]⟩
  · cases h
theorem takeE_cases (l : List UInt8) : takeE l = 0 ∨ takeE l = 2 ∨ takeE l = 9 := by
  unfold takeE
  repeat' split
  all_goals simp

/-! ### Pairs of bytes -/
theorem atL_app_right (a b : List UInt8) (i : Nat) : atL (a ++ b) (a.length + i) = atL b i := by
  unfold atL; rw [List.getElem?_append_right (by omega), Nat.add_sub_cancel_left]
theorem atL_drop (l : List UInt8) (a i : Nat) : atL (l.drop a) i = atL l (a + i) := by unfold atL; rw [List.getElem?_drop]
theorem atL_take (l : List UInt8) (c i : Nat) (h : i < c) : atL (l.take c) i = atL l i := by unfold atL; rw [List.getElem?_take_of_lt h]
theorem pair_drop (l : List UInt8) (a i : Nat) : pairL (l.drop a) i = pairL l (a + i) := by unfold pairL; rw [atL_drop, atL_drop]; rfl
theorem pair_take (l : List UInt8) (c i : Nat) (h : i + 1 < c) : pairL (l.take c) i = pairL l i := by unfold pairL; rw [atL_take _ _ _ (by omega), atL_take _ _ _ (by omega)]
theorem num_pair (l : List UInt8) (h : 2 ≤ l.length) : numL (l.take 2) = pairL l 0 := by
  match l, h with
  | a :: b :: l, _ => simp [numL, pairL, atL]
theorem num_at (l : List UInt8) (a : Nat) (h : a + 2 ≤ l.length) : numL ((l.drop a).take 2) = pairL l a := by
  rw [num_pair _ (by simp; omega), pair_drop]; rfl
theorem bytes_at2 (l : List UInt8) (a : Nat) (h : a + 2 ≤ l.length) : bytesL (pairL l a) 2 = (l.drop a).take 2 := by
  rw [← num_at l a h]
  have e := bytes_num ((l.drop a).take 2)
  have e2 : ((l.drop a).take 2).length = 2 := by simp; omega
  rw [e2] at e
  exact e
theorem pair_bytes (a b : List UInt8) (N k : Nat) (ha : a.length = k) (h : N < 65536) : pairL (a ++ (bytesL N 2 ++ b)) k = N := by
  subst ha
  have e : pairL (a ++ (bytesL N 2 ++ b)) a.length = pairL (bytesL N 2 ++ b) 0 := by
    unfold pairL
    rw [atL_app_right a (bytesL N 2 ++ b) 1]
    have := atL_app_right a (bytesL N 2 ++ b) 0
    rw [Nat.add_zero] at this
    rw [this]
  rw [e, bytes_two]
  simp only [pairL, atL, List.cons_append, List.nil_append]
  simp
  omega

/-! ### What is taken is written as it stood there -/
theorem take_app (l : List UInt8) (a b : Nat) : l.take a ++ (l.drop a).take b = l.take (a + b) := by rw [List.take_add]
theorem tags_back (l : List UInt8) (F : Fr) (hK : F.K = fun i => (kindAt l i : Int)) (hV : F.V = fun i => (valAt l i : Int)) : ∀ k, 12 + 4 * k ≤ l.length → l.take 12 ++ tagsL F k = l.take (12 + 4 * k)
  | 0, _ => by simp [tagsL]
  | k + 1, h => by
    have ih := tags_back l F hK hV k (by omega)
    rw [tagsL, ← List.append_assoc, ih, hK, hV]
    simp only [Int.toNat_natCast]
    unfold kindAt valAt
    rw [bytes_at2 l _ (by omega), bytes_at2 l _ (by omega), ← List.append_assoc, take_app, show 14 + 4 * k = 12 + 4 * k + 2 by omega, take_app]
    congr 1
theorem right_of {l : List UInt8} (h : takeE l = 0) : RightP (frOf l) ∧ headL (frOf l) ++ restOf l = l := by
  obtain ⟨k, ⟨o1, o2, o3⟩, h1, h2, h3⟩ := done_of h
  obtain ⟨e1, e2⟩ := fr_ok ⟨h, h3⟩
  rw [e1, e2]
  refine ⟨⟨by simp; omega, by simp; omega, o2, fun i hi => ⟨o3 i hi, ?_⟩, ?_, h2⟩, ?_⟩
  · have := pairL_lt l (14 + 4 * i)
    simp only [isN_iff, valAt]; omega
  · have := pairL_lt l (12 + 4 * k)
    simp only [isN_iff, kindAt]; omega
  · have t := tags_back l ⟨l.take 6, (l.drop 6).take 6, k, fun i => kindAt l i, fun i => valAt l i, kindAt l k⟩ rfl rfl k o1
    show (l.take 6 ++ (l.drop 6).take 6 ++ tagsL _ k ++ bytesL ((kindAt l k : Int)).toNat 2) ++ l.drop (14 + 4 * k) = l
    rw [take_app, t, Int.toNat_natCast, kindAt, bytes_at2 l _ (by omega), take_app, show 12 + 4 * k + 2 = 14 + 4 * k by omega, List.take_append_drop]

/-! ### What is written is taken back -/
theorem tagsL_len (F : Fr) : ∀ k, (tagsL F k).length = 4 * k
  | 0 => rfl
  | k + 1 => by rw [tagsL, List.length_append, List.length_append, tagsL_len F k, bytesL_len, bytesL_len]; omega
/-- The tags from one on. -/
theorem tags_part (F : Fr) : ∀ n i, i < n → ∃ r, tagsL F n = tagsL F i ++ (bytesL (F.K i).toNat 2 ++ (bytesL (F.V i).toNat 2 ++ r))
  | 0, i, h => by omega
  | n + 1, i, h => by
    by_cases e : i = n
    · subst e
      exact ⟨[], by rw [tagsL]; simp⟩
    · obtain ⟨r, hr⟩ := tags_part F n i (by omega)
      exact ⟨r ++ (bytesL (F.K n).toNat 2 ++ bytesL (F.V n).toNat 2), by rw [tagsL, hr]; simp⟩
theorem isK_two {n : Int} (h : isK n = true) : 0 ≤ n ∧ n ≤ 65535 := by
  simp [isK] at h
  omega
theorem taken_back (F : Fr) (b : List UInt8) (h : RightP F) :
    takeE (headL F ++ b) = 0 ∧ takeN (headL F ++ b) = F.n ∧ (headL F ++ b).take 6 = F.d ∧ ((headL F ++ b).drop 6).take 6 = F.s ∧ (∀ i, i < F.n → (kindAt (headL F ++ b) i : Int) = F.K i ∧ (valAt (headL F ++ b) i : Int) = F.V i) ∧ (kindAt (headL F ++ b) F.n : Int) = F.T ∧ (headL F ++ b).drop (14 + 4 * F.n) = b := by
  obtain ⟨h1, h2, h3, h4, h5, h6⟩ := h
  have hT := isN_iff.1 h5
  have tl := tagsL_len F F.n
  have len : (headL F ++ b).length = 14 + 4 * F.n + b.length := by
    simp only [headL, List.length_append, h1, h2, tl, bytesL_len]; omega
  have kT : kindAt (headL F ++ b) F.n = F.T.toNat := by
    unfold kindAt
    rw [show headL F ++ b = (F.d ++ F.s ++ tagsL F F.n) ++ (bytesL F.T.toNat 2 ++ b) by simp [headL]]
    exact pair_bytes _ _ _ _ (by simp only [List.length_append, h1, h2, tl]) (by omega)
  have kv : ∀ i, i < F.n → (kindAt (headL F ++ b) i : Int) = F.K i ∧ (valAt (headL F ++ b) i : Int) = F.V i := fun i hi => by
    obtain ⟨r, hr⟩ := tags_part F F.n i hi
    have ti := tagsL_len F i
    have hk := isK_two (h4 i hi).1
    have hv := isN_iff.1 (h4 i hi).2
    constructor
    · unfold kindAt
      rw [show headL F ++ b = (F.d ++ F.s ++ tagsL F i) ++ (bytesL (F.K i).toNat 2 ++ (bytesL (F.V i).toNat 2 ++ (r ++ (bytesL F.T.toNat 2 ++ b)))) by simp [headL, hr]]
      rw [pair_bytes _ _ _ _ (by simp only [List.length_append, h1, h2, ti]) (by omega)]
      omega
    · unfold valAt
      rw [show headL F ++ b = (F.d ++ F.s ++ tagsL F i ++ bytesL (F.K i).toNat 2) ++ (bytesL (F.V i).toNat 2 ++ (r ++ (bytesL F.T.toNat 2 ++ b))) by simp [headL, hr]]
      rw [pair_bytes _ _ _ _ (by simp only [List.length_append, h1, h2, ti, bytesL_len]; omega) (by omega)]
      omega
  have ok : OkAt (headL F ++ b) F.n := ⟨by omega, h3, fun i hi => by rw [(kv i hi).1]; exact (h4 i hi).1⟩
  have kT' : (kindAt (headL F ++ b) F.n : Int) = F.T := by omega
  obtain ⟨d1, d2⟩ := take_done ok (by omega) (by rw [kT']; exact h6)
  refine ⟨d1, d2, ?_, ?_, kv, kT', ?_⟩
  · rw [show headL F ++ b = F.d ++ (F.s ++ (tagsL F F.n ++ (bytesL F.T.toNat 2 ++ b))) by simp [headL]]
    exact List.take_left' h1
  · rw [show headL F ++ b = F.d ++ (F.s ++ (tagsL F F.n ++ (bytesL F.T.toNat 2 ++ b))) by simp [headL], List.drop_left' h1]
    exact List.take_left' h2
  · exact List.drop_left' (by simp only [headL, List.length_append, h1, h2, tl, bytesL_len]; omega)

/-! ### A frame that ends within its head -/
theorem cut_short {l : List UInt8} (h : takeE l = 0) (c : Nat) (hc : c < l.length - (restOf l).length) : takeE (l.take c) = 2 := by
  obtain ⟨k, ⟨o1, o2, o3⟩, h1, h2, h3⟩ := done_of h
  rw [(fr_ok ⟨h, h3⟩).2, List.length_drop] at hc
  have len : (l.take c).length = c := by simp; omega
  have key : ∀ i, 14 + 4 * i ≤ c → kindAt (l.take c) i = kindAt l i := fun i hi => pair_take l c _ (by omega)
  by_cases c12 : c < 12
  · exact take_less (by omega)
  by_cases c14 : c < 14
  · exact take_short1 (okAt_zero (by omega)) (by omega)
  have k0 : isK (kindAt (l.take c) 0) = true := by rw [key 0 (by omega)]; exact o3 0 (by omega)
  by_cases c16 : c < 16
  · exact take_short2 (okAt_zero (by omega)) (by omega) (by omega) (by omega) k0
  have ok1 : OkAt (l.take c) 1 := okAt_succ (okAt_zero (by omega)) (by omega) (by omega) k0
  by_cases c18 : c < 18
  · exact take_short1 ok1 (by omega)
  have k1 : isK (kindAt (l.take c) 1) = true := by rw [key 1 (by omega)]; exact o3 1 (by omega)
  by_cases c20 : c < 20
  · exact take_short2 ok1 (by omega) (by omega) (by omega) k1
  exact take_short1 (okAt_succ ok1 (by omega) (by omega) k1) (by omega)

end Go.Proofs.Yticopigpgaomjaa.Et
