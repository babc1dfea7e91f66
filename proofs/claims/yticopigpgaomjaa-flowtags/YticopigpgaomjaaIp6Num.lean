
/-
  Headers of version 6 and their chain on lists of bytes: plain mathematics, nothing of the program is in this text.
-/
import Derived.Test.YticopigpgaomjaaOctNum
namespace Go.Proofs.Yticopigpgaomjaa.Ip6
open Oc

structure Ex where
  kind : Int
  data : List UInt8
structure Hd where
  cls : Int
  lab : Int
  hop : Int
  pro : Int
  src : List UInt8
  dst : List UInt8
  ch : List Ex
/-- A Kind of extensions; how long its Data may be. -/
def isX (n : Int) : Bool := n == 0 || n == 43 || n == 44 || n == 60
theorem isX_iff {n : Int} : isX n = true ↔ n = 0 ∨ n = 43 ∨ n = 44 ∨ n = 60 := by
  unfold isX
  simp only [Bool.or_eq_true, beq_iff_eq]
  omega
def dataP (k : Int) (n : Nat) : Prop := (k = 44 → n = 7) ∧ (k ≠ 44 → 6 ≤ n ∧ n ≤ 2046 ∧ n % 8 = 6)
def extP (i : Nat) (x : Ex) : Prop := isX x.kind = true ∧ (x.kind = 0 → i = 0) ∧ dataP x.kind x.data.length
def RightP (H : Hd) : Prop := (0 ≤ H.cls ∧ H.cls ≤ 255) ∧ (0 ≤ H.lab ∧ H.lab ≤ 1048575) ∧ (0 ≤ H.hop ∧ H.hop ≤ 255) ∧ (0 ≤ H.pro ∧ H.pro ≤ 255) ∧ isX H.pro = false ∧ H.src.length = 16 ∧ H.dst.length = 16 ∧ H.ch.length ≤ 8 ∧ ∀ (i : Nat) (x : Ex), H.ch[i]? = some x → extP i x
def zeroHd : Hd := ⟨0, 0, 0, 0, [], [], []⟩

/-! ### Bytes at places -/
theorem atL_left {a b : List UInt8} {i : Nat} (h : i < a.length) : atL (a ++ b) i = atL a i := by unfold atL; rw [List.getElem?_append_left h]
theorem atL_right {a b : List UInt8} {i : Nat} (h : a.length ≤ i) : atL (a ++ b) i = atL b (i - a.length) := by unfold atL; rw [List.getElem?_append_right h]
theorem atL_take {l : List UInt8} {n i : Nat} (h : i < n) : atL (l.take n) i = atL l i := by unfold atL; rw [List.getElem?_take_of_lt h]
theorem atL_drop (l : List UInt8) (a i : Nat) : atL (l.drop a) i = atL l (a + i) := by unfold atL; rw [List.getElem?_drop]
theorem pairL_left {a b : List UInt8} {i : Nat} (h : i + 1 < a.length) : pairL (a ++ b) i = pairL a i := by unfold pairL; rw [atL_left (by omega), atL_left (by omega)]
theorem pairL_take {l : List UInt8} {n i : Nat} (h : i + 1 < n) : pairL (l.take n) i = pairL l i := by unfold pairL; rw [atL_take (by omega), atL_take (by omega)]
theorem drop_at (l : List UInt8) (i : Nat) (h : i < l.length) : l.drop i = l[i]'h :: l.drop (i + 1) := List.drop_eq_getElem_cons h
theorem num_one (l : List UInt8) (k : Nat) (h : k + 1 ≤ l.length) : numL ((l.drop k).take 1) = atL l k := by
  rw [drop_at l k (by omega), List.take_succ_cons, List.take_zero, numL_cons, numL_nil, atL_get]
  simp
theorem num_two (l : List UInt8) (k : Nat) (h : k + 2 ≤ l.length) : numL ((l.drop k).take 2) = pairL l k := by
  rw [drop_at l k (by omega), drop_at l (k + 1) (by omega), List.take_succ_cons, List.take_succ_cons, List.take_zero, numL_cons, numL_cons, numL_nil, atL_get, atL_get]
  simp only [List.length_cons, List.length_nil, pairL]
  omega
theorem num_four (l : List UInt8) (h : 4 ≤ l.length) : numL (l.take 4) = 16777216 * atL l 0 + 65536 * atL l 1 + 256 * atL l 2 + atL l 3 := by
  rw [num_take l 3 (by omega), num_take l 2 (by omega), num_take l 1 (by omega), num_take l 0 (by omega), List.take_zero, numL_nil]
  omega
theorem one_is (N : Nat) (h : N < 256) : bytesL N 1 = [UInt8.ofNat N] := by
  rw [bytesL, bytesL, Nat.mod_eq_of_lt h]; rfl
theorem at_one (N : Nat) (b : List UInt8) (h : N < 256) : atL (bytesL N 1 ++ b) 0 = N := by
  rw [one_is N h]
  show (UInt8.ofNat N).toNat = N
  exact UInt8.toNat_ofNat_of_lt' h
theorem bytes_take (l : List UInt8) (a k : Nat) (h : a + k ≤ l.length) : bytesL (numL ((l.drop a).take k)) k = (l.drop a).take k := by
  have e := bytes_num ((l.drop a).take k)
  have e2 : ((l.drop a).take k).length = k := by simp; omega
  rw [e2] at e
  exact e
theorem take_app (l : List UInt8) (a b : Nat) : l.take a ++ (l.drop a).take b = l.take (a + b) := by rw [List.take_add]

/-! ### One extension -/
def endX (k : Int) (s : List UInt8) : Nat := if k = 44 then 8 else 8 * (atL s 1 + 1)
def hdX (k : Int) : Nat := if k = 44 then 1 else 2
def dataX (k : Int) (s : List UInt8) : List UInt8 := (s.drop (hdX k)).take (endX k s - hdX k)
def noX (f : Nat) (k : Int) (s : List UInt8) : Bool := (k == 0 && f != 8) || (decide (s.length < 8) || decide (s.length < endX k s))
theorem noX_iff {f : Nat} {k : Int} {s : List UInt8} : noX f k s = true ↔ (k = 0 ∧ f ≠ 8) ∨ s.length < 8 ∨ s.length < endX k s := by simp [noX]
structure Tk where
  ch : List Ex
  pro : Int
  rest : List UInt8
/-- The chain at the beginning, of which so many more may come; the first one's Kind is told. -/
def takeC : Nat → Int → List UInt8 → Option Tk
  | 0, K, s => if isX K = false then some ⟨[], K, s⟩ else none
  | f + 1, K, s => if isX K = false then some ⟨[], K, s⟩ else if noX (f + 1) K s = true then none else (takeC f (atL s 0) (s.drop (endX K s))).map fun t => ⟨⟨K, dataX K s⟩ :: t.ch, t.pro, t.rest⟩
theorem takeC_no (f : Nat) {K : Int} (s : List UInt8) (h : isX K = false) : takeC f K s = some ⟨[], K, s⟩ := by
  cases f <;> rw [takeC, if_pos h]

/-! ### What a loop keeps that takes a chain -/
def Went (K0 : Int) (s0 : List UInt8) (C : List Ex) (K : Int) (s : List UInt8) : Prop := C.length ≤ 8 ∧ takeC 8 K0 s0 = (takeC (8 - C.length) K s).map fun t => ⟨C ++ t.ch, t.pro, t.rest⟩
theorem went_start (K : Int) (s : List UInt8) : Went K s [] K s := by
  refine ⟨by simp, ?_⟩
  show takeC 8 K s = (takeC 8 K s).map _
  cases takeC 8 K s <;> rfl
theorem went_done {K0 K : Int} {s0 s : List UInt8} {C : List Ex} (h : Went K0 s0 C K s) (hK : isX K = false) : takeC 8 K0 s0 = some ⟨C, K, s⟩ := by
  rw [h.2, takeC_no _ _ hK]; simp
theorem went_full {K0 K : Int} {s0 s : List UInt8} {C : List Ex} (h : Went K0 s0 C K s) (hK : isX K = true) (hC : C.length = 8) : takeC 8 K0 s0 = none := by
  rw [h.2, hC]
  show (takeC 0 K s).map _ = none
  rw [takeC, if_neg (by simp [hK])]; rfl
theorem went_not {K0 K : Int} {s0 s : List UInt8} {C : List Ex} (h : Went K0 s0 C K s) (hK : isX K = true) (hC : C.length < 8) (hn : (K = 0 ∧ 0 < C.length) ∨ s.length < 8 ∨ s.length < endX K s) : takeC 8 K0 s0 = none := by
  obtain ⟨f, hf⟩ : ∃ f, 8 - C.length = f + 1 := ⟨7 - C.length, by omega⟩
  rw [h.2, hf, takeC, if_neg (by simp [hK]), if_pos ?_]
  · rfl
  · rw [noX_iff]
    omega
theorem went_step {K0 K : Int} {s0 s : List UInt8} {C : List Ex} (h : Went K0 s0 C K s) (hK : isX K = true) (hC : C.length < 8) (h0 : K = 0 → C.length = 0) (h8 : 8 ≤ s.length) (he : endX K s ≤ s.length) :
    Went K0 s0 (C ++ [⟨K, dataX K s⟩]) (atL s 0) (s.drop (endX K s)) := by
  obtain ⟨f, hf⟩ : ∃ f, 8 - C.length = f + 1 := ⟨7 - C.length, by omega⟩
  refine ⟨by simp; omega, ?_⟩
  rw [h.2, hf, takeC, if_neg (by simp [hK]), if_neg ?_]
  · rw [show 8 - (C ++ [(⟨K, dataX K s⟩ : Ex)]).length = f by simp; omega]
    cases takeC f (atL s 0) (s.drop (endX K s)) with
    | none => rfl
    | some t => simp
  · rw [noX_iff]
    omega

/-! ### What is taken -/
def wordL (l : List UInt8) : Nat := numL (l.take 4)
def lenL (l : List UInt8) : Nat := pairL l 4
def behL (l : List UInt8) : List UInt8 := (l.drop 40).take (lenL l)
def tkOf (l : List UInt8) : Option Tk := takeC 8 (atL l 6) (behL l)
def takeE (l : List UInt8) : Nat := if l.length < 40 then 2 else if atL l 0 / 16 ≠ 6 then 10 else if l.length < 40 + lenL l then 13 else match tkOf l with
  | none => 15
  | some _ => 0
def okHd (l : List UInt8) (t : Tk) : Hd := ⟨(wordL l / 1048576 % 256 : Nat), (wordL l % 1048576 : Nat), atL l 7, t.pro, (l.drop 8).take 16, (l.drop 24).take 16, t.ch⟩
def hdOf (l : List UInt8) : Hd := if takeE l = 0 then match tkOf l with
  | none => zeroHd
  | some t => okHd l t else zeroHd
def bodyOf (l : List UInt8) : List UInt8 := if takeE l = 0 then match tkOf l with
  | none => []
  | some t => t.rest else []
theorem take_short {l : List UInt8} (h : l.length < 40) : takeE l = 2 := by unfold takeE; rw [if_pos h]
theorem take_version {l : List UInt8} (h : 40 ≤ l.length) (h1 : atL l 0 / 16 ≠ 6) : takeE l = 10 := by unfold takeE; rw [if_neg (by omega), if_pos h1]
theorem take_length {l : List UInt8} (h : 40 ≤ l.length) (h1 : atL l 0 / 16 = 6) (h2 : l.length < 40 + lenL l) : takeE l = 13 := by unfold takeE; rw [if_neg (by omega), if_neg (by omega), if_pos h2]
theorem take_chain {l : List UInt8} (h : 40 ≤ l.length) (h1 : atL l 0 / 16 = 6) (h2 : 40 + lenL l ≤ l.length) (h3 : tkOf l = none) : takeE l = 15 := by unfold takeE; rw [if_neg (by omega), if_neg (by omega), if_neg (by omega), h3]
theorem take_done {l : List UInt8} {t : Tk} (h : 40 ≤ l.length) (h1 : atL l 0 / 16 = 6) (h2 : 40 + lenL l ≤ l.length) (h3 : tkOf l = some t) : takeE l = 0 ∧ hdOf l = okHd l t ∧ bodyOf l = t.rest := by
  have e : takeE l = 0 := by unfold takeE; rw [if_neg (by omega), if_neg (by omega), if_neg (by omega), h3]
  refine ⟨e, ?_, ?_⟩
  · unfold hdOf; rw [if_pos e, h3]
  · unfold bodyOf; rw [if_pos e, h3]
theorem take_err {l : List UInt8} (h : takeE l ≠ 0) : hdOf l = zeroHd ∧ bodyOf l = [] := by
  unfold hdOf bodyOf; rw [if_neg h, if_neg h]; exact ⟨rfl, rfl⟩
theorem take_ok {l : List UInt8} (h : takeE l = 0) : 40 ≤ l.length ∧ atL l 0 / 16 = 6 ∧ 40 + lenL l ≤ l.length ∧ ∃ t, tkOf l = some t := by
  by_cases h1 : l.length < 40
  · rw [take_short h1] at h; cases h
  by_cases h2 : atL l 0 / 16 = 6
  rotate_left
  · rw [take_version (by omega) h2] at h; cases h
  by_cases h3 : l.length < 40 + lenL l
  · rw [take_length (by omega) h2 h3] at h; cases h
  cases h4 : tkOf l with
  | none => rw [take_chain (by omega) h2 (by omega) h4] at h; cases h
  | some t => exact ⟨by omega, h2, by omega, t, rfl⟩
theorem takeE_cases (l : List UInt8) : takeE l = 0 ∨ takeE l = 2 ∨ takeE l = 10 ∨ takeE l = 13 ∨ takeE l = 15 := by
  by_cases h1 : l.length < 40
  · rw [take_short h1]; simp
  by_cases h2 : atL l 0 / 16 = 6
  rotate_left
  · rw [take_version (by omega) h2]; simp
  by_cases h3 : l.length < 40 + lenL l
  · rw [take_length (by omega) h2 h3]; simp
  cases h4 : tkOf l with
  | none => rw [take_chain (by omega) h2 (by omega) h4]; simp
  | some t => rw [(take_done (by omega) h2 (by omega) h4).1]; simp

/-! ### What is written -/
def headK : List Ex → Int → Int
  | [], p => p
  | x :: _, _ => x.kind
def extL (x : Ex) (nx : Int) : List UInt8 := bytesL nx.toNat 1 ++ ((if x.kind = 44 then [] else bytesL (x.data.length / 8) 1) ++ x.data)
def chainL : List Ex → Int → List UInt8
  | [], _ => []
  | x :: c, p => extL x (headK c p) ++ chainL c p
def frontL (C L N K H : Nat) (s d : List UInt8) : List UInt8 := bytesL (1610612736 + 1048576 * C + L) 4 ++ (bytesL N 2 ++ (bytesL K 1 ++ (bytesL H 1 ++ (s ++ d))))
def putL (h : Hd) (b : List UInt8) : List UInt8 := frontL h.cls.toNat h.lab.toNat ((chainL h.ch h.pro).length + b.length) (headK h.ch h.pro).toNat h.hop.toNat h.src h.dst ++ (chainL h.ch h.pro ++ b)
theorem isX_byte {n : Int} (h : isX n = true) : 0 ≤ n ∧ n ≤ 255 := by
  rcases isX_iff.1 h with rfl | rfl | rfl | rfl <;> omega
/-- An extension that is as it may be, at the beginning of bytes. -/
theorem ext_read (x : Ex) (nx : Int) (r : List UInt8) (h1 : 0 ≤ nx ∧ nx ≤ 255) (h2 : dataP x.kind x.data.length) :
    (extL x nx).length = endX x.kind (extL x nx ++ r) ∧ 8 ≤ (extL x nx).length ∧ (atL (extL x nx ++ r) 0 : Int) = nx ∧ dataX x.kind (extL x nx ++ r) = x.data := by
  obtain ⟨k, d⟩ := x
  simp only at h2
  have a0 : ∀ z : List UInt8, (atL (bytesL nx.toNat 1 ++ z) 0 : Int) = nx := fun z => by rw [at_one _ _ (by omega)]; omega
  have l1 : (bytesL nx.toNat 1).length = 1 := bytesL_len _ _
  by_cases hk : k = 44
  · have hd := h2.1 hk
    unfold extL endX dataX hdX endX
    simp only [if_pos hk]
    refine ⟨by simp [l1]; omega, by simp [l1]; omega, ?_, ?_⟩
    · rw [List.append_assoc]; exact a0 _
    · rw [List.append_assoc, List.drop_left' l1, List.nil_append, List.take_left' (by omega)]
  · have hd := h2.2 hk
    have l2 : (bytesL (d.length / 8) 1).length = 1 := bytesL_len _ _
    unfold extL
    have ea : atL ((bytesL nx.toNat 1 ++ ((if k = 44 then [] else bytesL (d.length / 8) 1) ++ d)) ++ r) 1 = d.length / 8 := by
      rw [if_neg hk, List.append_assoc, atL_right (by omega), l1, List.append_assoc]
      exact at_one _ _ (by omega)
    have ee : endX k ((bytesL nx.toNat 1 ++ ((if k = 44 then [] else bytesL (d.length / 8) 1) ++ d)) ++ r) = 2 + d.length := by
      unfold endX
      rw [if_neg hk, ea]
      omega
    simp only
    refine ⟨?_, ?_, ?_, ?_⟩
    · rw [ee, if_neg hk]; simp [l1, l2]; omega
    · rw [if_neg hk]; simp [l1, l2]; omega
    · rw [List.append_assoc]; exact a0 _
    · unfold dataX
      rw [ee]
      unfold hdX
      rw [if_neg hk, if_neg hk, show bytesL nx.toNat 1 ++ (bytesL (d.length / 8) 1 ++ d) ++ r = (bytesL nx.toNat 1 ++ bytesL (d.length / 8) 1) ++ (d ++ r) by simp, List.drop_left' (by simp [l1, l2])]
      exact List.take_left' (by omega)
theorem headK_byte {c : List Ex} {p : Int} (hp : 0 ≤ p ∧ p ≤ 255) (h : ∀ (i : Nat) (x : Ex), c[i]? = some x → isX x.kind = true) : 0 ≤ headK c p ∧ headK c p ≤ 255 := by
  cases c with
  | nil => exact hp
  | cons x c => exact isX_byte (h 0 x rfl)
theorem take_back : ∀ (c : List Ex) (f : Nat) (p : Int) (b : List UInt8), isX p = false → 0 ≤ p ∧ p ≤ 255 → c.length ≤ f → (∀ (i : Nat) (x : Ex), c[i]? = some x → isX x.kind = true ∧ (x.kind = 0 → i = 0 ∧ f = 8) ∧ dataP x.kind x.data.length) → takeC f (headK c p) (chainL c p ++ b) = some ⟨c, p, b⟩
  | [], f, p, b, hX, _, _, _ => takeC_no f b hX
  | x :: c, 0, p, b, _, _, hl, _ => by simp at hl
  | x :: c, f + 1, p, b, hX, hp, hl, h => by
    obtain ⟨x1, x2, x3⟩ := h 0 x rfl
    have hr : ∀ (i : Nat) (y : Ex), c[i]? = some y → isX y.kind = true ∧ (y.kind = 0 → i = 0 ∧ f = 8) ∧ dataP y.kind y.data.length := fun i y hy => by
      obtain ⟨y1, y2, y3⟩ := h (i + 1) y hy
      exact ⟨y1, fun e => by have := (y2 e).1; omega, y3⟩
    have ih := take_back c f p b hX hp (by simp at hl; omega) hr
    have hb := headK_byte hp (fun i y hy => (hr i y hy).1)
    obtain ⟨e1, e2, e3, e4⟩ := ext_read x (headK c p) (chainL c p ++ b) hb x3
    have es : chainL (x :: c) p ++ b = extL x (headK c p) ++ (chainL c p ++ b) := by rw [chainL, List.append_assoc]
    rw [es]
    show takeC (f + 1) x.kind _ = _
    rw [takeC, if_neg (by simp [x1]), if_neg ?_]
    · rw [e3, ← e1, List.drop_left, ih, e4]; rfl
    · rw [noX_iff, ← e1, List.length_append]
      rintro (⟨h0, h8⟩ | h0 | h0)
      · exact h8 (x2 h0).2
      · omega
      · omega
theorem ext_back (K : Int) (s : List UInt8) (h8 : 8 ≤ s.length) (he : endX K s ≤ s.length) :
    dataP K (dataX K s).length ∧ extL ⟨K, dataX K s⟩ (atL s 0) ++ s.drop (endX K s) = s := by
  have a1 := atL_lt s 1
  have b0 : bytesL (atL s 0 : Int).toNat 1 = s.take 1 := by
    rw [Int.toNat_natCast]
    have e := bytes_take s 0 1 (by omega)
    rw [num_one s 0 (by omega)] at e
    exact e
  by_cases hk : K = 44
  · unfold dataX extL endX hdX
    simp only [if_pos hk]
    refine ⟨⟨fun _ => by simp; omega, fun h => absurd hk h⟩, ?_⟩
    rw [b0, List.nil_append, take_app, List.take_append_drop]
  · have el : (dataX K s).length = 6 + 8 * atL s 1 := by
      unfold dataX
      unfold endX at he ⊢
      unfold hdX
      rw [if_neg hk] at he
      rw [if_neg hk, if_neg hk]
      simp
      omega
    refine ⟨⟨fun h => absurd h hk, fun _ => by omega⟩, ?_⟩
    unfold extL
    simp only
    have b1 : bytesL ((dataX K s).length / 8) 1 = (s.drop 1).take 1 := by
      rw [el, show (6 + 8 * atL s 1) / 8 = atL s 1 by omega]
      have e := bytes_take s 1 1 (by omega)
      rw [num_one s 1 (by omega)] at e
      exact e
    rw [if_neg hk, b0, b1]
    unfold dataX hdX
    rw [if_neg hk, ← List.append_assoc, take_app, take_app]
    have e : 1 + 1 + (endX K s - 2) = endX K s := by unfold endX; rw [if_neg hk]; omega
    rw [e, List.take_append_drop]
theorem take_right : ∀ (f : Nat) (K : Int) (s : List UInt8) (t : Tk), f ≤ 8 → 0 ≤ K ∧ K ≤ 255 → takeC f K s = some t → t.ch.length ≤ f ∧ isX t.pro = false ∧ (0 ≤ t.pro ∧ t.pro ≤ 255) ∧ (∀ (i : Nat) (x : Ex), t.ch[i]? = some x → isX x.kind = true ∧ (x.kind = 0 → i = 0 ∧ f = 8) ∧ dataP x.kind x.data.length) ∧ headK t.ch t.pro = K ∧ chainL t.ch t.pro ++ t.rest = s
  | f, K, s, t, hf, hK, h => by
    by_cases hX : isX K = false
    · rw [takeC_no f s hX] at h
      cases h
      exact ⟨by simp, hX, hK, fun i x hx => by simp at hx, rfl, rfl⟩
    · cases f with
      | zero => rw [takeC, if_neg hX] at h; cases h
      | succ f =>
        rw [takeC, if_neg hX] at h
        by_cases hn : noX (f + 1) K s = true
        · rw [if_pos hn] at h; cases h
        · rw [if_neg hn] at h
          rw [noX_iff] at hn
          have hX' : isX K = true := by simpa using hX
          cases hq : takeC f (atL s 0) (s.drop (endX K s)) with
          | none => rw [hq] at h; cases h
          | some t' =>
            rw [hq] at h
            simp only [Option.map_some, Option.some.injEq] at h
            subst h
            have a0 := atL_lt s 0
            obtain ⟨i1, i2, i3, i4, i5, i6⟩ := take_right f _ _ t' (by omega) ⟨by omega, by omega⟩ hq
            obtain ⟨d1, d2⟩ := ext_back K s (by omega) (by omega)
            refine ⟨by simp; omega, i2, i3, fun i x hx => ?_, rfl, ?_⟩
            · cases i with
              | zero =>
                simp only [List.getElem?_cons_zero, Option.some.injEq] at hx
                subst hx
                exact ⟨hX', fun e => ⟨rfl, by change K = 0 at e; omega⟩, d1⟩
              | succ i =>
                simp only [List.getElem?_cons_succ] at hx
                obtain ⟨j1, j2, j3⟩ := i4 i x hx
                refine ⟨j1, fun e => ?_, j3⟩
                have q := (j2 e).2
                omega
            · show chainL (⟨K, dataX K s⟩ :: t'.ch) t'.pro ++ t'.rest = s
              rw [chainL, List.append_assoc, i6, i5]
              exact d2

/-! ### What is written is taken back -/
theorem front_len (C L N K H : Nat) (s d : List UInt8) : (frontL C L N K H s d).length = 8 + (s.length + d.length) := by
  simp only [frontL, List.length_append, bytesL_len]; omega
theorem front_read (C L N K H : Nat) (s d r : List UInt8) (hC : C ≤ 255) (hL : L ≤ 1048575) (hN : N ≤ 65535) (hK : K ≤ 255) (hH : H ≤ 255) (hs : s.length = 16) (hd : d.length = 16) :
    wordL (frontL C L N K H s d ++ r) = 1610612736 + 1048576 * C + L ∧ lenL (frontL C L N K H s d ++ r) = N ∧ atL (frontL C L N K H s d ++ r) 6 = K ∧ atL (frontL C L N K H s d ++ r) 7 = H ∧ ((frontL C L N K H s d ++ r).drop 8).take 16 = s ∧ ((frontL C L N K H s d ++ r).drop 24).take 16 = d ∧ (frontL C L N K H s d ++ r).drop 40 = r := by
  have l4 := bytesL_len (1610612736 + 1048576 * C + L) 4
  have l2 := bytesL_len N 2
  have l1 := bytesL_len K 1
  have l0 := bytesL_len H 1
  unfold frontL
  generalize h4 : bytesL (1610612736 + 1048576 * C + L) 4 = x4 at l4
  generalize h2 : bytesL N 2 = x2 at l2
  generalize h1 : bytesL K 1 = x1 at l1
  generalize h0 : bytesL H 1 = x0 at l0
  refine ⟨?_, ?_, ?_, ?_, ?_, ?_, ?_⟩
  · unfold wordL
    rw [List.append_assoc, List.take_left' l4, ← h4, num_bytes]
    omega
  · unfold lenL
    rw [← num_two _ 4 (by simp only [List.length_append]; omega), List.append_assoc, List.drop_left' l4, List.append_assoc, List.take_left' l2, ← h2, num_bytes]
    omega
  · rw [← num_one _ 6 (by simp only [List.length_append]; omega), show x4 ++ (x2 ++ (x1 ++ (x0 ++ (s ++ d)))) ++ r = (x4 ++ x2) ++ (x1 ++ (x0 ++ (s ++ (d ++ r)))) by simp, List.drop_left' (by simp only [List.length_append]; omega), List.take_left' l1, ← h1, num_bytes]
    omega
  · rw [← num_one _ 7 (by simp only [List.length_append]; omega), show x4 ++ (x2 ++ (x1 ++ (x0 ++ (s ++ d)))) ++ r = (x4 ++ (x2 ++ x1)) ++ (x0 ++ (s ++ (d ++ r))) by simp, List.drop_left' (by simp only [List.length_append]; omega), List.take_left' l0, ← h0, num_bytes]
    omega
  · rw [show x4 ++ (x2 ++ (x1 ++ (x0 ++ (s ++ d)))) ++ r = (x4 ++ (x2 ++ (x1 ++ x0))) ++ (s ++ (d ++ r)) by simp, List.drop_left' (by simp only [List.length_append]; omega), List.take_left' hs]
  · rw [show x4 ++ (x2 ++ (x1 ++ (x0 ++ (s ++ d)))) ++ r = (x4 ++ (x2 ++ (x1 ++ (x0 ++ s)))) ++ (d ++ r) by simp, List.drop_left' (by simp only [List.length_append]; omega), List.take_left' hd]
  · rw [List.drop_left' (by simp only [List.length_append]; omega)]
theorem word_zero {l : List UInt8} (h : 4 ≤ l.length) : wordL l / 268435456 = atL l 0 / 16 := by
  have e := num_four l h
  have a0 := atL_lt l 0
  have a1 := atL_lt l 1
  have a2 := atL_lt l 2
  have a3 := atL_lt l 3
  unfold wordL
  omega
theorem right_head {h : Hd} (hR : RightP h) : 0 ≤ headK h.ch h.pro ∧ headK h.ch h.pro ≤ 255 := by
  obtain ⟨_, _, _, r4, _, _, _, _, r9⟩ := hR
  exact headK_byte r4 (fun i x hx => (r9 i x hx).1)
theorem back {h : Hd} (hR : RightP h) (b m : List UInt8) (hb : (chainL h.ch h.pro).length + b.length ≤ 65535) : takeE (putL h b ++ m) = 0 ∧ hdOf (putL h b ++ m) = h ∧ bodyOf (putL h b ++ m) = b := by
  have hk := right_head hR
  obtain ⟨r1, r2, r3, r4, r5, r6, r7, r8, r9⟩ := hR
  have e0 : putL h b ++ m = frontL h.cls.toNat h.lab.toNat ((chainL h.ch h.pro).length + b.length) (headK h.ch h.pro).toNat h.hop.toNat h.src h.dst ++ ((chainL h.ch h.pro ++ b) ++ m) := by
    unfold putL; rw [List.append_assoc]
  obtain ⟨f1, f2, f3, f4, f5, f6, f7⟩ := front_read h.cls.toNat h.lab.toNat ((chainL h.ch h.pro).length + b.length) (headK h.ch h.pro).toNat h.hop.toNat h.src h.dst ((chainL h.ch h.pro ++ b) ++ m) (by omega) (by omega) hb (by omega) (by omega) r6 r7
  have fl : 40 + ((chainL h.ch h.pro).length + b.length) ≤ (putL h b ++ m).length := by
    rw [e0, List.length_append, front_len, r6, r7, List.length_append, List.length_append]; omega
  rw [← e0] at f1 f2 f3 f4 f5 f6 f7
  have tk : tkOf (putL h b ++ m) = some ⟨h.ch, h.pro, b⟩ := by
    unfold tkOf behL
    rw [f7, f2, f3, List.take_left' (by rw [List.length_append]), show ((headK h.ch h.pro).toNat : Int) = headK h.ch h.pro by omega]
    exact take_back h.ch 8 h.pro b r5 r4 r8 (fun i x hx => ⟨(r9 i x hx).1, fun e => ⟨(r9 i x hx).2.1 e, rfl⟩, (r9 i x hx).2.2⟩)
  have w0 := word_zero (l := putL h b ++ m) (by omega)
  obtain ⟨d1, d2, d3⟩ := take_done (by omega) (by omega) (by omega) tk
  refine ⟨d1, ?_, d3⟩
  rw [d2]
  unfold okHd
  rw [f1, f4, f5, f6]
  obtain ⟨c, lb, hp, pr, s, d, ch⟩ := h
  simp only at r1 r2 r3 r4 ⊢
  simp only [Hd.mk.injEq, and_true]
  omega
/-- What is taken is right, and is written as it stood there. -/
theorem right_of {l : List UInt8} (h : takeE l = 0) : RightP (hdOf l) ∧ putL (hdOf l) (bodyOf l) = l.take (40 + lenL l) ∧ (chainL (hdOf l).ch (hdOf l).pro).length + (bodyOf l).length = lenL l ∧ 40 + lenL l ≤ l.length ∧ lenL l ≤ 65535 := by
  obtain ⟨h1, h2, h3, t, h4⟩ := take_ok h
  obtain ⟨_, e1, e2⟩ := take_done h1 h2 h3 h4
  have a6 := atL_lt l 6
  have a7 := atL_lt l 7
  have hln : lenL l ≤ 65535 := by have := pairL_lt l 4; unfold lenL; omega
  obtain ⟨i1, i2, i3, i4, i5, i6⟩ := take_right 8 _ _ t (by omega) ⟨by omega, by omega⟩ h4
  have bl : (behL l).length = lenL l := by unfold behL; simp; omega
  have cl : (chainL t.ch t.pro).length + t.rest.length = lenL l := by rw [← List.length_append, i6, bl]
  have wl : wordL l < 4294967296 := by
    have := num_take_lt l 4
    unfold wordL; omega
  have w0 := word_zero (l := l) (by omega)
  rw [e1, e2]
  refine ⟨?_, ?_, cl, h3, hln⟩
  · unfold okHd RightP
    refine ⟨by simp only; omega, by simp only; omega, by simp only; omega, i3, i2, by simp; omega, by simp; omega, i1, fun i x hx => ?_⟩
    obtain ⟨x1, x2, x3⟩ := i4 i x hx
    exact ⟨x1, fun e => (x2 e).1, x3⟩
  · unfold putL okHd
    simp only [Int.toNat_natCast]
    rw [cl, i5, i6, Int.toNat_natCast]
    unfold frontL
    have q4 : bytesL (1610612736 + 1048576 * (wordL l / 1048576 % 256) + wordL l % 1048576) 4 = l.take 4 := by
      rw [show 1610612736 + 1048576 * (wordL l / 1048576 % 256) + wordL l % 1048576 = wordL l by omega]
      exact bytes_take l 0 4 (by omega)
    have q2 : bytesL (lenL l) 2 = (l.drop 4).take 2 := by
      have e := bytes_take l 4 2 (by omega)
      rw [num_two l 4 (by omega)] at e
      exact e
    have q1 : bytesL (atL l 6) 1 = (l.drop 6).take 1 := by
      have e := bytes_take l 6 1 (by omega)
      rw [num_one l 6 (by omega)] at e
      exact e
    have q0 : bytesL (atL l 7) 1 = (l.drop 7).take 1 := by
      have e := bytes_take l 7 1 (by omega)
      rw [num_one l 7 (by omega)] at e
      exact e
    rw [q4, q2, q1, q0]
    unfold behL
    simp only [← List.append_assoc]
    rw [take_app, take_app, take_app, take_app, take_app, take_app]
theorem put_len {h : Hd} (hR : RightP h) (b : List UInt8) : (putL h b).length = 40 + ((chainL h.ch h.pro).length + b.length) := by
  unfold putL
  rw [List.length_append, front_len, hR.2.2.2.2.2.1, hR.2.2.2.2.2.2.1, List.length_append]
theorem trail {l : List UInt8} (m : List UInt8) (h : takeE l = 0) : takeE (l ++ m) = 0 ∧ hdOf (l ++ m) = hdOf l ∧ bodyOf (l ++ m) = bodyOf l := by
  obtain ⟨hR, hp, hl, _, hn⟩ := right_of h
  have e : l ++ m = putL (hdOf l) (bodyOf l) ++ (l.drop (40 + lenL l) ++ m) := by rw [hp, ← List.append_assoc, List.take_append_drop]
  rw [e]
  exact back hR (bodyOf l) _ (by omega)
theorem cut_at {l : List UInt8} (h : takeE l = 0) (c : Nat) (hc : c < 40 + lenL l) : takeE (l.take c) = if c < 40 then 2 else 13 := by
  obtain ⟨h1, h2, h3, _⟩ := take_ok h
  have ll : (l.take c).length = c := by simp; omega
  split
  · exact take_short (by omega)
  · have e0 : atL (l.take c) 0 = atL l 0 := atL_take (by omega)
    have e4 : lenL (l.take c) = lenL l := pairL_take (by omega)
    exact take_length (by omega) (by rw [e0]; exact h2) (by omega)
/-- A chain's bytes are few. -/
theorem chain_len : ∀ (c : List Ex) (p : Int), (∀ (i : Nat) (x : Ex), c[i]? = some x → x.data.length ≤ 2046) → (chainL c p).length ≤ 2048 * c.length
  | [], p, _ => by simp [chainL]
  | x :: c, p, h => by
    have ih := chain_len c p (fun i y hy => h (i + 1) y hy)
    have hx := h 0 x rfl
    have hl : (extL x (headK c p)).length ≤ 2 + x.data.length := by
      unfold extL
      simp only [List.length_append, bytesL_len]
      split <;> simp [bytesL_len]
      omega
    rw [chainL, List.length_append, List.length_cons]
    omega
theorem data_le {k : Int} {n : Nat} (h : dataP k n) : n ≤ 2046 := by
  by_cases e : k = 44
  · have := h.1 e; omega
  · exact (h.2 e).2.1
theorem right_len {h : Hd} (hR : RightP h) : (chainL h.ch h.pro).length ≤ 16384 := by
  obtain ⟨_, _, _, _, _, _, _, r8, r9⟩ := hR
  have := chain_len h.ch h.pro (fun i x hx => data_le (r9 i x hx).2.2)
  omega
end Go.Proofs.Yticopigpgaomjaa.Ip6
