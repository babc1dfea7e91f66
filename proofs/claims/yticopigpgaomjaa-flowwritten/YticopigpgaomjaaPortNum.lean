
/-
  Segments and datagrams, on lists of bytes: plain mathematics, nothing of the program is in this text.
-/
import Derived.Test.YticopigpgaomjaaOctNum
namespace Go.Proofs.Yticopigpgaomjaa.Pt
open Oc

/-- The number at a place, of so many bytes. -/
def nAt (l : List UInt8) (T k : Nat) : Nat := numL ((l.drop T).take k)
theorem nAt_two_lt (l : List UInt8) (T : Nat) : nAt l T 2 < 65536 := num_take_lt (l.drop T) 2
theorem nAt_one (l : List UInt8) (T : Nat) (h : T < l.length) : nAt l T 1 = atL l T := by
  unfold nAt
  rw [List.drop_eq_getElem_cons h, List.take_succ_cons, List.take_zero, numL_cons, numL_nil, atL_get l T h]
  simp
theorem nAt_nil (l : List UInt8) (k : Nat) : nAt l 0 k = numL (l.take k) := rfl
/-- How long a segment's head is. -/
def headN (l : List UInt8) : Nat := atL l 12 / 16 * 4
theorem headN_lt (l : List UInt8) : headN l ≤ 60 := by
  have := atL_lt l 12
  unfold headN
  omega
def segB (l : List UInt8) : Bool := decide (20 ≤ l.length) && (decide (20 ≤ headN l) && decide (headN l ≤ l.length))
def dgmB (l : List UInt8) : Bool := decide (8 ≤ l.length) && (decide (8 ≤ nAt l 4 2) && decide (nAt l 4 2 ≤ l.length))
/-- Whether bytes are a segment, a datagram. -/
def okB (p : Int) (l : List UInt8) : Bool := if p = 6 then segB l else if p = 17 then dgmB l else false
def srcP (p : Int) (l : List UInt8) : Nat := if okB p l = true then nAt l 0 2 else 0
def dstP (p : Int) (l : List UInt8) : Nat := if okB p l = true then nAt l 2 2 else 0
def bodyP (p : Int) (l : List UInt8) : List UInt8 := if okB p l = true then (if p = 6 then l.drop (headN l) else (l.drop 8).take (nAt l 4 2 - 8)) else []
def errP (p : Int) (l : List UInt8) : Nat := if okB p l = true then 0 else if p = 6 then 16 else if p = 17 then 16 else 8
theorem srcP_lt (p : Int) (l : List UInt8) : srcP p l < 65536 := by
  have := nAt_two_lt l 0
  unfold srcP
  split <;> omega
theorem dstP_lt (p : Int) (l : List UInt8) : dstP p l < 65536 := by
  have := nAt_two_lt l 2
  unfold dstP
  split <;> omega
theorem bodyP_len (p : Int) (l : List UInt8) : (bodyP p l).length ≤ l.length := by
  unfold bodyP
  split
  · split
    · simp
    · simp; omega
  · simp
theorem no_P {p : Int} {l : List UInt8} (h : okB p l = false) : srcP p l = 0 ∧ dstP p l = 0 ∧ bodyP p l = [] := by simp [srcP, dstP, bodyP, h]
theorem err_type {p : Int} (l : List UInt8) (h6 : p ≠ 6) (h17 : p ≠ 17) : okB p l = false ∧ errP p l = 8 := by simp [okB, errP, h6, h17]
theorem err_seg {l : List UInt8} (h : segB l = false) : okB 6 l = false ∧ errP 6 l = 16 := by simp [okB, errP, h]
theorem err_dgm {l : List UInt8} (h : dgmB l = false) : okB 17 l = false ∧ errP 17 l = 16 := by simp [okB, errP, h]
theorem ok_seg {l : List UInt8} (h : segB l = true) : okB 6 l = true ∧ srcP 6 l = nAt l 0 2 ∧ dstP 6 l = nAt l 2 2 ∧ bodyP 6 l = l.drop (headN l) ∧ errP 6 l = 0 := by simp [okB, errP, srcP, dstP, bodyP, h]
theorem ok_dgm {l : List UInt8} (h : dgmB l = true) : okB 17 l = true ∧ srcP 17 l = nAt l 0 2 ∧ dstP 17 l = nAt l 2 2 ∧ bodyP 17 l = (l.drop 8).take (nAt l 4 2 - 8) ∧ errP 17 l = 0 := by simp [okB, errP, srcP, dstP, bodyP, h]
theorem seg_iff (l : List UInt8) : segB l = true ↔ 20 ≤ l.length ∧ 20 ≤ headN l ∧ headN l ≤ l.length := by simp [segB]
theorem dgm_iff (l : List UInt8) : dgmB l = true ↔ 8 ≤ l.length ∧ 8 ≤ nAt l 4 2 ∧ nAt l 4 2 ≤ l.length := by simp [dgmB]
theorem err_ok {p : Int} {l : List UInt8} : errP p l = 0 ↔ okB p l = true := by
  unfold errP
  constructor
  · intro h
    cases e : okB p l with
    | true => rfl
    | false =>
      rw [if_neg (by rw [e]; decide)] at h
      split at h
      · omega
      · split at h <;> omega
  · intro h; rw [if_pos h]
theorem ok_proto {p : Int} {l : List UInt8} (h : okB p l = true) : p = 6 ∨ p = 17 := by
  unfold okB at h
  split at h
  · left; assumption
  · split at h
    · right; assumption
    · cases h
/-- What ends within its head is refused. -/
theorem short_no {p : Int} {l q : List UInt8} (h : okB p l = true) (hq : q.length ≤ 7) : srcP p q = 0 ∧ dstP p q = 0 ∧ bodyP p q = [] ∧ errP p q = 16 := by
  rcases ok_proto h with rfl | rfl
  · have e : segB q = false := by
      cases e : segB q with
      | false => rfl
      | true => have := (seg_iff q).1 e; omega
    obtain ⟨a, b⟩ := err_seg e
    obtain ⟨c, d, f⟩ := no_P a
    exact ⟨c, d, f, b⟩
  · have e : dgmB q = false := by
      cases e : dgmB q with
      | false => rfl
      | true => have := (dgm_iff q).1 e; omega
    obtain ⟨a, b⟩ := err_dgm e
    obtain ⟨c, d, f⟩ := no_P a
    exact ⟨c, d, f, b⟩

/-! ### What is written -/
def zerosL (n : Nat) : List UInt8 := List.replicate n 0
theorem zerosL_len (n : Nat) : (zerosL n).length = n := by simp [zerosL]
theorem bytes_nought (k : Nat) : bytesL 0 k = zerosL k := by
  induction k with
  | zero => rfl
  | succ k ih =>
    show bytesL (0 / 256) k ++ [UInt8.ofNat (0 % 256)] = _
    rw [Nat.zero_div, ih]
    unfold zerosL
    rw [List.replicate_succ']
    rfl
/-- A segment: ports, eight noughts, 16 times the head's length in fours, seven noughts, options, body. -/
def tcpL (A B : Nat) (o b : List UInt8) : List UInt8 := bytesL A 2 ++ (bytesL B 2 ++ (zerosL 8 ++ (bytesL (4 * (20 + o.length)) 1 ++ (zerosL 7 ++ (o ++ b)))))
/-- A datagram: ports, the length, two noughts, body. -/
def udpL (A B : Nat) (b : List UInt8) : List UInt8 := bytesL A 2 ++ (bytesL B 2 ++ (bytesL (8 + b.length) 2 ++ (zerosL 2 ++ b)))
theorem tcpL_len (A B : Nat) (o b : List UInt8) : (tcpL A B o b).length = 20 + o.length + b.length := by
  unfold tcpL
  simp only [List.length_append, bytesL_len, zerosL_len]
  omega
theorem udpL_len (A B : Nat) (b : List UInt8) : (udpL A B b).length = 8 + b.length := by
  unfold udpL
  simp only [List.length_append, bytesL_len, zerosL_len]
  omega
theorem nAt_at (x y z : List UInt8) (T k N : Nat) (hx : x.length = T) (hy : y = bytesL N k) (hN : N < 256 ^ k) : nAt (x ++ (y ++ z)) T k = N := by
  unfold nAt
  rw [List.drop_append_of_le_length (by omega), List.drop_of_length_le (by omega), List.nil_append, hy, List.take_append_of_le_length (by rw [bytesL_len]; omega), List.take_of_length_le (by rw [bytesL_len]; omega), num_bytes, Nat.mod_eq_of_lt hN]
theorem drop_at (x z : List UInt8) (T : Nat) (hx : x.length = T) : (x ++ z).drop T = z := by
  rw [List.drop_append_of_le_length (by omega), List.drop_of_length_le (by omega), List.nil_append]
theorem tcp_back {A B : Nat} (o b : List UInt8) (hA : A < 65536) (hB : B < 65536) (ho : o.length ≤ 40) (h4 : o.length % 4 = 0) :
    srcP 6 (tcpL A B o b) = A ∧ dstP 6 (tcpL A B o b) = B ∧ bodyP 6 (tcpL A B o b) = b ∧ errP 6 (tcpL A B o b) = 0 := by
  have ln := tcpL_len A B o b
  have n1 : nAt (tcpL A B o b) 0 2 = A := nAt_at [] (bytesL A 2) _ 0 2 A rfl rfl (by omega)
  have n2 : nAt (tcpL A B o b) 2 2 = B := nAt_at (bytesL A 2) (bytesL B 2) _ 2 2 B (bytesL_len _ _) rfl (by omega)
  have e : tcpL A B o b = (bytesL A 2 ++ (bytesL B 2 ++ zerosL 8)) ++ (bytesL (4 * (20 + o.length)) 1 ++ (zerosL 7 ++ (o ++ b))) := by unfold tcpL; simp only [List.append_assoc]
  have n3 : nAt (tcpL A B o b) 12 1 = 4 * (20 + o.length) := by
    rw [e]
    exact nAt_at _ _ _ 12 1 _ (by simp only [List.length_append, bytesL_len, zerosL_len]) rfl (by omega)
  have hd : headN (tcpL A B o b) = 20 + o.length := by
    unfold headN
    rw [← nAt_one _ 12 (by omega), n3]
    omega
  have e2 : tcpL A B o b = (bytesL A 2 ++ (bytesL B 2 ++ (zerosL 8 ++ (bytesL (4 * (20 + o.length)) 1 ++ (zerosL 7 ++ o))))) ++ b := by unfold tcpL; simp only [List.append_assoc]
  have db : (tcpL A B o b).drop (20 + o.length) = b := by
    rw [e2]
    exact drop_at _ _ _ (by simp only [List.length_append, bytesL_len, zerosL_len]; omega)
  obtain ⟨_, k1, k2, k3, k4⟩ := ok_seg ((seg_iff (tcpL A B o b)).2 ⟨by omega, by omega, by omega⟩)
  exact ⟨by rw [k1, n1], by rw [k2, n2], by rw [k3, hd, db], k4⟩
theorem udp_back {A B : Nat} (b m : List UInt8) (hA : A < 65536) (hB : B < 65536) (hb : b.length ≤ 65527) :
    srcP 17 (udpL A B b ++ m) = A ∧ dstP 17 (udpL A B b ++ m) = B ∧ bodyP 17 (udpL A B b ++ m) = b ∧ errP 17 (udpL A B b ++ m) = 0 := by
  have ln := udpL_len A B b
  have e : udpL A B b ++ m = bytesL A 2 ++ (bytesL B 2 ++ (bytesL (8 + b.length) 2 ++ (zerosL 2 ++ (b ++ m)))) := by unfold udpL; simp only [List.append_assoc]
  have n1 : nAt (udpL A B b ++ m) 0 2 = A := by rw [e]; exact nAt_at [] (bytesL A 2) _ 0 2 A rfl rfl (by omega)
  have n2 : nAt (udpL A B b ++ m) 2 2 = B := by rw [e]; exact nAt_at (bytesL A 2) (bytesL B 2) _ 2 2 B (bytesL_len _ _) rfl (by omega)
  have e2 : udpL A B b ++ m = (bytesL A 2 ++ bytesL B 2) ++ (bytesL (8 + b.length) 2 ++ (zerosL 2 ++ (b ++ m))) := by rw [e]; simp only [List.append_assoc]
  have n3 : nAt (udpL A B b ++ m) 4 2 = 8 + b.length := by
    rw [e2]
    exact nAt_at _ _ _ 4 2 _ (by simp only [List.length_append, bytesL_len]) rfl (by omega)
  have e3 : udpL A B b ++ m = (bytesL A 2 ++ (bytesL B 2 ++ (bytesL (8 + b.length) 2 ++ zerosL 2))) ++ (b ++ m) := by rw [e]; simp only [List.append_assoc]
  have db : ((udpL A B b ++ m).drop 8).take (8 + b.length - 8) = b := by
    rw [e3, drop_at _ _ 8 (by simp only [List.length_append, bytesL_len, zerosL_len]), show 8 + b.length - 8 = b.length by omega, List.take_left]
  have lm : (udpL A B b ++ m).length = 8 + b.length + m.length := by rw [List.length_append, ln]
  obtain ⟨_, k1, k2, k3, k4⟩ := ok_dgm ((dgm_iff (udpL A B b ++ m)).2 ⟨by omega, by omega, by omega⟩)
  exact ⟨by rw [k1, n1], by rw [k2, n2], by rw [k3, n3, db], k4⟩
end Go.Proofs.Yticopigpgaomjaa.Pt
