/-
  Flows of frames on lists of bytes: plain mathematics, nothing of the program is in this text.
-/
import Derived.Test.YticopigpgaomjaaEthNum
import Derived.Test.YticopigpgaomjaaIp4Num
import Derived.Test.YticopigpgaomjaaIp6Num
import Derived.Test.YticopigpgaomjaaPortNum
namespace Go.Proofs.Yticopigpgaomjaa.Fl
open Oc Pt

/-- What a packet tells: the error, both addresses, the protocol, the body. -/
structure Pk where
  err : Nat
  src : List UInt8
  dst : List UInt8
  pro : Int
  body : List UInt8
structure Fw where
  src : List UInt8
  dst : List UInt8
  pro : Int
  a : Nat
  b : Nat
structure Ans where
  fw : Fw
  err : Nat
def noPk (E : Nat) : Pk := ⟨E, [], [], 0, []⟩
def zeroFw : Fw := ⟨[], [], 0, 0, 0⟩
def aheadL : List UInt8 := [0, 0, 0, 0, 0, 0, 0, 0, 0, 0, 255, 255]
def furB (x : Ip6.Ex) : Bool := decide (x.kind = 44) && (decide (3 ≤ x.data.length) && decide (8 ≤ pairL x.data 1))
def pieceB (C : List Ip6.Ex) : Bool := C.any furB
def pk4 (r : List UInt8) : Pk := if Ip4.takeE r = 0 then (if (Ip4.hdOf r).off = 0 then ⟨0, aheadL ++ (Ip4.hdOf r).src, aheadL ++ (Ip4.hdOf r).dst, (Ip4.hdOf r).proto, Ip4.bodyOf r⟩ else noPk 14) else noPk (Ip4.takeE r)
def pk6 (r : List UInt8) : Pk := if Ip6.takeE r = 0 then (if pieceB (Ip6.hdOf r).ch = false then ⟨0, (Ip6.hdOf r).src, (Ip6.hdOf r).dst, (Ip6.hdOf r).pro, Ip6.bodyOf r⟩ else noPk 14) else noPk (Ip6.takeE r)
def pkOf (T : Int) (r : List UInt8) : Pk := if T = 2048 then pk4 r else if T = 34525 then pk6 r else noPk 8
def ansW (s d : List UInt8) (p : Int) (b : List UInt8) : Ans := if p = 6 ∨ p = 17 then (if errP p b = 0 then ⟨⟨s, d, p, srcP p b, dstP p b⟩, 0⟩ else ⟨zeroFw, errP p b⟩) else ⟨⟨s, d, p, 0, 0⟩, 0⟩
def ansP (k : Pk) : Ans := if k.err = 0 then ansW k.src k.dst k.pro k.body else ⟨zeroFw, k.err⟩
def ansE (l : List UInt8) : Ans := if Et.takeE l = 0 then ansP (pkOf (Et.frOf l).T (Et.restOf l)) else ⟨zeroFw, Et.takeE l⟩
def ansOf (l : List UInt8) : Ans := if l.length ≤ 2048 then ansE l else ⟨zeroFw, 4⟩

theorem of_long {l : List UInt8} (h : 2048 < l.length) : ansOf l = ⟨zeroFw, 4⟩ := by unfold ansOf; rw [if_neg (by omega)]
theorem of_eth {l : List UInt8} (h : l.length ≤ 2048) (h1 : Et.takeE l ≠ 0) : ansOf l = ⟨zeroFw, Et.takeE l⟩ := by unfold ansOf ansE; rw [if_pos h, if_neg h1]
theorem of_pk {l : List UInt8} (h : l.length ≤ 2048) (h1 : Et.takeE l = 0) : ansOf l = ansP (pkOf (Et.frOf l).T (Et.restOf l)) := by unfold ansOf ansE; rw [if_pos h, if_pos h1]
theorem p_err {k : Pk} (h : k.err ≠ 0) : ansP k = ⟨zeroFw, k.err⟩ := by unfold ansP; rw [if_neg h]
theorem p_ok {k : Pk} (h : k.err = 0) : ansP k = ansW k.src k.dst k.pro k.body := by unfold ansP; rw [if_pos h]
theorem w_none {s d : List UInt8} {p : Int} {b : List UInt8} (h : ¬ (p = 6 ∨ p = 17)) : ansW s d p b = ⟨⟨s, d, p, 0, 0⟩, 0⟩ := by unfold ansW; rw [if_neg h]
theorem w_err {s d : List UInt8} {p : Int} {b : List UInt8} (h : p = 6 ∨ p = 17) (h1 : errP p b ≠ 0) : ansW s d p b = ⟨zeroFw, errP p b⟩ := by unfold ansW; rw [if_pos h, if_neg h1]
theorem w_ok {s d : List UInt8} {p : Int} {b : List UInt8} (h : p = 6 ∨ p = 17) (h1 : errP p b = 0) : ansW s d p b = ⟨⟨s, d, p, srcP p b, dstP p b⟩, 0⟩ := by unfold ansW; rw [if_pos h, if_pos h1]
theorem four_err {r : List UInt8} (h : Ip4.takeE r ≠ 0) : pk4 r = noPk (Ip4.takeE r) := by unfold pk4; rw [if_neg h]
theorem four_piece {r : List UInt8} (h : Ip4.takeE r = 0) (h1 : (Ip4.hdOf r).off ≠ 0) : pk4 r = noPk 14 := by unfold pk4; rw [if_pos h, if_neg h1]
theorem four_ok {r : List UInt8} (h : Ip4.takeE r = 0) (h1 : (Ip4.hdOf r).off = 0) : pk4 r = ⟨0, aheadL ++ (Ip4.hdOf r).src, aheadL ++ (Ip4.hdOf r).dst, (Ip4.hdOf r).proto, Ip4.bodyOf r⟩ := by unfold pk4; rw [if_pos h, if_pos h1]
theorem six_err {r : List UInt8} (h : Ip6.takeE r ≠ 0) : pk6 r = noPk (Ip6.takeE r) := by unfold pk6; rw [if_neg h]
theorem six_piece {r : List UInt8} (h : Ip6.takeE r = 0) (h1 : pieceB (Ip6.hdOf r).ch = true) : pk6 r = noPk 14 := by unfold pk6; rw [if_pos h, h1, if_neg (by simp)]
theorem six_ok {r : List UInt8} (h : Ip6.takeE r = 0) (h1 : pieceB (Ip6.hdOf r).ch = false) : pk6 r = ⟨0, (Ip6.hdOf r).src, (Ip6.hdOf r).dst, (Ip6.hdOf r).pro, Ip6.bodyOf r⟩ := by unfold pk6; rw [if_pos h, if_pos h1]
theorem of_four (r : List UInt8) : pkOf 2048 r = pk4 r := by unfold pkOf; rw [if_pos rfl]
theorem of_six (r : List UInt8) : pkOf 34525 r = pk6 r := by unfold pkOf; rw [if_neg (by decide), if_pos rfl]
theorem of_none {T : Int} (r : List UInt8) (h : T ≠ 2048) (h1 : T ≠ 34525) : pkOf T r = noPk 8 := by unfold pkOf; rw [if_neg h, if_neg h1]
theorem rest_len (l : List UInt8) : (Et.restOf l).length ≤ l.length := by
  unfold Et.restOf
  split
  · simp
  · simp
theorem body4_len (l : List UInt8) : (Ip4.bodyOf l).length ≤ l.length := by
  unfold Ip4.bodyOf
  split
  · simp; omega
  · simp
theorem body6_len (l : List UInt8) : (Ip6.bodyOf l).length ≤ l.length := by
  by_cases h : Ip6.takeE l = 0
  · obtain ⟨_, _, h1, h2, _⟩ := Ip6.right_of h
    omega
  · rw [(Ip6.take_err h).2]; simp
theorem pk_len (T : Int) (r : List UInt8) : (pkOf T r).body.length ≤ r.length := by
  by_cases h : T = 2048
  · subst h
    rw [of_four]
    unfold pk4
    split
    · split
      · exact body4_len r
      · simp [noPk]
    · simp [noPk]
  · by_cases h1 : T = 34525
    · subst h1
      rw [of_six]
      unfold pk6
      split
      · split
        · exact body6_len r
        · simp [noPk]
      · simp [noPk]
    · rw [of_none r h h1]; simp [noPk]
theorem ch6 {l : List UInt8} {c b h p : Int} {s d : List UInt8} {C : List Ip6.Ex} (e : Ip6.hdOf l = ⟨c, b, h, p, s, d, C⟩) : C.length ≤ 8 ∧ ∀ (i : Nat) (x : Ip6.Ex), C[i]? = some x → x.data.length ≤ 2046 := by
  by_cases h0 : Ip6.takeE l = 0
  · obtain ⟨⟨_, _, _, _, _, _, _, h1, h2⟩, _⟩ := Ip6.right_of h0
    rw [e] at h1 h2
    exact ⟨h1, fun i x hx => Ip6.data_le (h2 i x hx).2.2⟩
  · have z := (Ip6.take_err h0).1
    rw [e] at z
    have z2 := (Ip6.Hd.mk.inj z).2.2.2.2.2.2
    subst z2
    exact ⟨by simp, fun i x hx => by simp at hx⟩

/-- A right flow, and its key. -/
structure Vw where
  src : List UInt8
  dst : List UInt8
  pro : Int
  a : Int
  b : Int
def upF (n g : Int) : Bool := decide (0 ≤ n) && decide (n ≤ g)
theorem upF_iff {n g : Int} : upF n g = true ↔ 0 ≤ n ∧ n ≤ g := by simp [upF]
def RightF (f : Vw) : Prop := f.src.length = 16 ∧ f.dst.length = 16 ∧ (0 ≤ f.pro ∧ f.pro ≤ 255) ∧ (0 ≤ f.a ∧ f.a ≤ 65535) ∧ (0 ≤ f.b ∧ f.b ≤ 65535)
def keyL (s d : List UInt8) (P A B : Nat) : List UInt8 := s ++ d ++ bytesL P 1 ++ bytesL A 2 ++ bytesL B 2
def viewOf (k : List UInt8) : Fw := if k.length = 37 then ⟨k.take 16, (k.drop 16).take 16, nAt k 32 1, nAt k 33 2, nAt k 35 2⟩ else zeroFw
theorem key_len {s d : List UInt8} (hs : s.length = 16) (hd : d.length = 16) (P A B : Nat) : (keyL s d P A B).length = 37 := by
  simp only [keyL, List.length_append, hs, hd, bytesL_len]
theorem key_back {s d : List UInt8} (hs : s.length = 16) (hd : d.length = 16) {P A B : Nat} (hP : P ≤ 255) (hA : A ≤ 65535) (hB : B ≤ 65535) :
    (keyL s d P A B).take 16 = s ∧ ((keyL s d P A B).drop 16).take 16 = d ∧ nAt (keyL s d P A B) 32 1 = P ∧ nAt (keyL s d P A B) 33 2 = A ∧ nAt (keyL s d P A B) 35 2 = B := by
  refine ⟨?_, ?_, ?_, ?_, ?_⟩
  · rw [show keyL s d P A B = s ++ (d ++ (bytesL P 1 ++ (bytesL A 2 ++ bytesL B 2))) by simp [keyL]]
    exact List.take_left' hs
  · rw [show keyL s d P A B = s ++ (d ++ (bytesL P 1 ++ (bytesL A 2 ++ bytesL B 2))) by simp [keyL], List.drop_left' hs]
    exact List.take_left' hd
  · rw [show keyL s d P A B = (s ++ d) ++ (bytesL P 1 ++ (bytesL A 2 ++ bytesL B 2)) by simp [keyL]]
    exact nAt_at _ _ _ _ _ _ (by simp [hs, hd]) rfl (by omega)
  · rw [show keyL s d P A B = (s ++ d ++ bytesL P 1) ++ (bytesL A 2 ++ bytesL B 2) by simp [keyL]]
    exact nAt_at _ _ _ _ _ _ (by simp [hs, hd, bytesL_len]) rfl (by omega)
  · rw [show keyL s d P A B = (s ++ d ++ bytesL P 1 ++ bytesL A 2) ++ (bytesL B 2 ++ []) by simp [keyL]]
    exact nAt_at _ _ _ _ _ _ (by simp [hs, hd, bytesL_len]) rfl (by omega)
theorem nAt_bytes (k : List UInt8) (T n : Nat) (h : T + n ≤ k.length) : bytesL (nAt k T n) n = (k.drop T).take n := by
  unfold nAt
  have e := bytes_num ((k.drop T).take n)
  have e2 : ((k.drop T).take n).length = n := by simp; omega
  rw [e2] at e
  exact e
theorem key_of {k : List UInt8} (h : k.length = 37) : keyL (k.take 16) ((k.drop 16).take 16) (nAt k 32 1) (nAt k 33 2) (nAt k 35 2) = k := by
  unfold keyL
  rw [nAt_bytes k 32 1 (by omega), nAt_bytes k 33 2 (by omega), nAt_bytes k 35 2 (by omega), ← List.take_add, ← List.take_add, ← List.take_add, ← List.take_add]
  exact List.take_of_length_le (by omega)
theorem view_yes {k : List UInt8} (h : k.length = 37) : viewOf k = ⟨k.take 16, (k.drop 16).take 16, nAt k 32 1, nAt k 33 2, nAt k 35 2⟩ := by unfold viewOf; rw [if_pos h]
theorem view_no {k : List UInt8} (h : k.length ≠ 37) : viewOf k = zeroFw := by unfold viewOf; rw [if_neg h]
theorem nAt_le1 (k : List UInt8) (T : Nat) : nAt k T 1 ≤ 255 := by
  have := num_take_lt (k.drop T) 1
  unfold nAt
  omega
theorem nAt_le2 (k : List UInt8) (T : Nat) : nAt k T 2 ≤ 65535 := by
  have := nAt_two_lt k T
  omega

/-- What is extracted is a right flow. -/
theorem pk4_right {r : List UInt8} (h : (pk4 r).err = 0) : (pk4 r).src.length = 16 ∧ (pk4 r).dst.length = 16 ∧ 0 ≤ (pk4 r).pro ∧ (pk4 r).pro ≤ 255 := by
  by_cases h0 : Ip4.takeE r = 0
  · by_cases h1 : (Ip4.hdOf r).off = 0
    · obtain ⟨_, _, h3, _, _, _, h4, h5, _⟩ := Ip4.fine_right ((Ip4.fine_iff r).1 h0)
      rw [four_ok h0 h1]
      exact ⟨by simp [h4, aheadL], by simp [h5, aheadL], h3.1, h3.2⟩
    · rw [four_piece h0 h1] at h; simp [noPk] at h
  · rw [four_err h0] at h; exact absurd h h0
theorem pk6_right {r : List UInt8} (h : (pk6 r).err = 0) : (pk6 r).src.length = 16 ∧ (pk6 r).dst.length = 16 ∧ 0 ≤ (pk6 r).pro ∧ (pk6 r).pro ≤ 255 := by
  by_cases h0 : Ip6.takeE r = 0
  · by_cases h1 : pieceB (Ip6.hdOf r).ch = false
    · obtain ⟨⟨_, _, _, h3, _, h4, h5, _⟩, _⟩ := Ip6.right_of h0
      rw [six_ok h0 h1]
      exact ⟨h4, h5, h3.1, h3.2⟩
    · rw [six_piece h0 (by simpa using h1)] at h; simp [noPk] at h
  · rw [six_err h0] at h; exact absurd h h0
theorem pk_right {T : Int} {r : List UInt8} (h : (pkOf T r).err = 0) : (pkOf T r).src.length = 16 ∧ (pkOf T r).dst.length = 16 ∧ 0 ≤ (pkOf T r).pro ∧ (pkOf T r).pro ≤ 255 := by
  by_cases h0 : T = 2048
  · subst h0; rw [of_four] at h ⊢; exact pk4_right h
  · by_cases h1 : T = 34525
    · subst h1; rw [of_six] at h ⊢; exact pk6_right h
    · rw [of_none r h0 h1] at h; simp [noPk] at h
theorem w_right {s d b : List UInt8} {p : Int} (hs : s.length = 16) (hd : d.length = 16) (hp : 0 ≤ p ∧ p ≤ 255) (h : (ansW s d p b).err = 0) :
    (ansW s d p b).fw.src.length = 16 ∧ (ansW s d p b).fw.dst.length = 16 ∧ (0 ≤ (ansW s d p b).fw.pro ∧ (ansW s d p b).fw.pro ≤ 255) ∧ (ansW s d p b).fw.a ≤ 65535 ∧ (ansW s d p b).fw.b ≤ 65535 := by
  by_cases h0 : p = 6 ∨ p = 17
  · by_cases h1 : errP p b = 0
    · rw [w_ok h0 h1]
      have a := srcP_lt p b
      have c := dstP_lt p b
      exact ⟨hs, hd, hp, by simp only; omega, by simp only; omega⟩
    · rw [w_err h0 h1] at h; exact absurd h h1
  · rw [w_none h0]; exact ⟨hs, hd, hp, by simp, by simp⟩
theorem ans_ok {l : List UInt8} (h : (ansOf l).err = 0) : l.length ≤ 2048 ∧ Et.takeE l = 0 ∧ (pkOf (Et.frOf l).T (Et.restOf l)).err = 0 ∧ ansOf l = ansW (pkOf (Et.frOf l).T (Et.restOf l)).src (pkOf (Et.frOf l).T (Et.restOf l)).dst (pkOf (Et.frOf l).T (Et.restOf l)).pro (pkOf (Et.frOf l).T (Et.restOf l)).body := by
  by_cases h0 : l.length ≤ 2048
  · by_cases h1 : Et.takeE l = 0
    · rw [of_pk h0 h1] at h ⊢
      by_cases h2 : (pkOf (Et.frOf l).T (Et.restOf l)).err = 0
      · exact ⟨h0, h1, h2, p_ok h2⟩
      · rw [p_err h2] at h; exact absurd h h2
    · rw [of_eth h0 h1] at h; exact absurd h h1
  · rw [of_long (by omega)] at h; simp at h
theorem ans_right {l : List UInt8} (h : (ansOf l).err = 0) : l.length ≤ 2048 ∧ (ansOf l).fw.src.length = 16 ∧ (ansOf l).fw.dst.length = 16 ∧ (0 ≤ (ansOf l).fw.pro ∧ (ansOf l).fw.pro ≤ 255) ∧ (ansOf l).fw.a ≤ 65535 ∧ (ansOf l).fw.b ≤ 65535 := by
  obtain ⟨h0, h1, h2, h3⟩ := ans_ok h
  obtain ⟨p1, p2, p3⟩ := pk_right h2
  refine ⟨h0, ?_⟩
  rw [h3] at h ⊢
  exact w_right p1 p2 p3 h
theorem w_zero {s d b : List UInt8} {p : Int} (h : (ansW s d p b).err ≠ 0) : (ansW s d p b).fw = zeroFw := by
  by_cases h0 : p = 6 ∨ p = 17
  · by_cases h1 : errP p b = 0
    · rw [w_ok h0 h1] at h; simp at h
    · rw [w_err h0 h1]
  · rw [w_none h0] at h; simp at h
theorem ans_zero {l : List UInt8} (h : (ansOf l).err ≠ 0) : (ansOf l).fw = zeroFw := by
  by_cases h0 : l.length ≤ 2048
  · by_cases h1 : Et.takeE l = 0
    · rw [of_pk h0 h1] at h ⊢
      by_cases h2 : (pkOf (Et.frOf l).T (Et.restOf l)).err = 0
      · rw [p_ok h2] at h ⊢; exact w_zero h
      · rw [p_err h2]
    · rw [of_eth h0 h1]
  · rw [of_long (by omega)]

/-- Bytes behind a packet turn nothing. -/
theorem four_more {r : List UInt8} (m : List UInt8) (h : Ip4.takeE r = 0) : pk4 (r ++ m) = pk4 r := by
  obtain ⟨a, b, c⟩ := Ip4.fine_more ((Ip4.fine_iff r).1 h) m
  have a' := (Ip4.fine_iff _).2 a
  unfold pk4
  rw [a', h, b, c]
theorem six_more {r : List UInt8} (m : List UInt8) (h : Ip6.takeE r = 0) : pk6 (r ++ m) = pk6 r := by
  obtain ⟨a, b, c⟩ := Ip6.trail m h
  unfold pk6
  rw [a, h, b, c]
theorem pk_more {T : Int} {r : List UInt8} (m : List UInt8) (h : (pkOf T r).err = 0) : pkOf T (r ++ m) = pkOf T r := by
  by_cases h0 : T = 2048
  · subst h0; rw [of_four] at h ⊢
    rw [of_four]
    by_cases h1 : Ip4.takeE r = 0
    · exact four_more m h1
    · rw [four_err h1] at h; exact absurd h h1
  · by_cases h1 : T = 34525
    · subst h1; rw [of_six] at h ⊢
      rw [of_six]
      by_cases h1 : Ip6.takeE r = 0
      · exact six_more m h1
      · rw [six_err h1] at h; exact absurd h h1
    · rw [of_none r h0 h1] at h; simp [noPk] at h
/-- A frame with one tag more behind both addresses, and with more behind. -/
theorem tag_more {l t m : List UInt8} (h : (ansOf l).err = 0) (hn : (Et.frOf l).n ≤ 1) (ht : t.length = 4) (hk : Et.isK (pairL t 0) = true) (hl : l.length + 4 + m.length ≤ 2048) :
    ansOf (l.take 12 ++ t ++ l.drop 12 ++ m) = ansOf l := by
  obtain ⟨h0, h1, h2, h3⟩ := ans_ok h
  obtain ⟨k, ⟨o1, o2, o3⟩, g1, g2, g3⟩ := Et.done_of h1
  obtain ⟨e1, e2⟩ := Et.fr_ok ⟨h1, g3⟩
  have hk1 : k ≤ 1 := by rw [e1] at hn; exact hn
  obtain ⟨L, hL⟩ : ∃ L, L = l.take 12 ++ t ++ l.drop 12 ++ m := ⟨_, rfl⟩
  have t12 : (l.take 12).length = 12 := by simp; omega
  have LL : L.length = l.length + 4 + m.length := by rw [hL]; simp [ht]; omega
  have first : Et.kindAt L 0 = pairL t 0 := by
    unfold Et.kindAt
    have q : L = l.take 12 ++ (t ++ (l.drop 12 ++ m)) := by rw [hL]; simp
    have d := Et.pair_drop L 12 0
    rw [show 12 + 4 * 0 = 12 + 0 from rfl, ← d, q, List.drop_left' t12]
    unfold pairL
    rw [Ip4.atL_left (by omega), Ip4.atL_left (by omega)]
  have behind : L.drop 16 = l.drop 12 ++ m := by
    have q : L = (l.take 12 ++ t) ++ (l.drop 12 ++ m) := by rw [hL]; simp
    rw [q, List.drop_left' (by rw [List.length_append, t12, ht])]
  have next : ∀ i, 14 + 4 * i ≤ l.length → Et.kindAt L (i + 1) = Et.kindAt l i := fun i hi => by
    unfold Et.kindAt
    rw [show 12 + 4 * (i + 1) = 16 + 4 * i by omega, ← Et.pair_drop L 16 (4 * i), behind, ← Et.pair_drop l 12 (4 * i)]
    unfold pairL
    rw [Ip4.atL_left (by simp; omega), Ip4.atL_left (by simp; omega)]
  have ok : Et.OkAt L (k + 1) := by
    refine ⟨by omega, by omega, fun i hi => ?_⟩
    cases i with
    | zero => rw [first]; exact hk
    | succ i => rw [next i (by omega)]; exact o3 i (by omega)
  have d := Et.take_done ok (by omega) (by rw [next k (by omega)]; exact g2)
  obtain ⟨f1, f2⟩ := Et.fr_ok d
  rw [← hL]
  have R : Et.restOf L = Et.restOf l ++ m := by
    rw [f2, e2, show 14 + 4 * (k + 1) = 16 + (2 + 4 * k) by omega, ← List.drop_drop, behind, List.drop_append_of_le_length (by simp; omega), List.drop_drop]
    congr 2
    omega
  have T : (Et.frOf L).T = (Et.frOf l).T := by
    rw [f1, e1]
    show (Et.kindAt L (k + 1) : Int) = Et.kindAt l k
    rw [next k (by omega)]
  rw [of_pk (by omega) d.1, of_pk h0 h1, R, T, pk_more m h2]

/-- Of a frame that was written. -/
theorem written {F : Et.Fr} (hF : Et.RightP F) (hT : F.T = 2048) {T I G L : Nat} {s d q u m : List UInt8} {A B : Nat} {b : List UInt8}
    (hR : Ip4.RightP ⟨T, I, G, (0 : Nat), L, (17 : Nat), s, d, q⟩) (hu : u = udpL A B b) (hA : A < 65536) (hB : B < 65536) (hb : b.length ≤ 65527) (hl : 20 + q.length + u.length < 65536)
    (hz : (Et.headL F ++ ((Ip4.headL T I G 0 L 17 s d q u.length ++ u) ++ m)).length ≤ 2048) :
    ansOf (Et.headL F ++ ((Ip4.headL T I G 0 L 17 s d q u.length ++ u) ++ m)) = ⟨⟨aheadL ++ s, aheadL ++ d, 17, A, B⟩, 0⟩ := by
  obtain ⟨e1, e2, e3, e4, e5, e6, e7⟩ := Et.taken_back F ((Ip4.headL T I G 0 L 17 s d q u.length ++ u) ++ m) hF
  obtain ⟨k1, k2⟩ := Et.fr_ok ⟨e1, e2⟩
  have hb4 := Ip4.back hR u m hl
  rw [of_pk hz e1, k1, k2, e7]
  simp only
  rw [e6, hT, of_four, four_ok ((Ip4.fine_iff _).2 hb4.1) (by rw [hb4.2.1]; rfl), hb4.2.1, hb4.2.2, p_ok rfl]
  obtain ⟨u1, u2, _, u4⟩ := udp_back b [] hA hB hb
  rw [List.append_nil, ← hu] at u1 u2 u4
  show ansW (aheadL ++ s) (aheadL ++ d) 17 u = _
  rw [w_ok (Or.inr rfl) u4, u1, u2]
end Go.Proofs.Yticopigpgaomjaa.Fl
