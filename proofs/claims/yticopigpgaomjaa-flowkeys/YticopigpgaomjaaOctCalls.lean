
/-
  What each function of layer 4 (octet) answers: the plain functions of YticopigpgaomjaaOctNum.
-/
import Derived.Test.YticopigpgaomjaaRows
import Derived.Test.YticopigpgaomjaaOctNum
import Derived.WalkKit
import Derived.WalkLawsBesides
import Derived.Outline
import Derived.Below
import Derived.OwnWalk
import Derived.Handy
import Derived.BigQuiet
import Derived.Deep.OwnRows
import Derived.Deep.LoopGhost
import Derived.Deep.RegionWith
import Derived.Laws.Strings
import Derived.Laws.Strings2
import Derived.Laws.Strings3
import Derived.Laws.Concat
import Derived.Laws.IdiomStrings
import Derived.Laws.Bits64b
namespace Go.Proofs.Yticopigpgaomjaa
open Go.RowKit Oc

theorem ret_int {k : IntKind} {a b : Int} (h : a = b) : Ending.returned (.int k a) = .returned (.int k b) := by rw [h]
theorem bel_trans {w w1 w2 : World} (h : Below w.heap.size w w1) (k : Below w1.heap.size w1 w2) : Below w.heap.size w w2 := h.trans (k.mono h.size)

theorem bits_and_i64 (a b : Nat) (ha : a < 9223372036854775808) (hb : b < 9223372036854775808) :
    bits .and .i64 (a : Int) (b : Int) = ((a &&& b : Nat) : Int) := by
  have hx : a &&& b < 2 ^ 63 := Nat.and_lt_two_pow _ (by omega)
  have h1 : (BitVec.ofInt 64 (a : Int)).toNat = a := by
    rw [BitVec.ofInt_natCast, BitVec.toNat_ofNat]; exact Nat.mod_eq_of_lt (by omega)
  have h2 : (BitVec.ofInt 64 (b : Int)).toNat = b := by
    rw [BitVec.ofInt_natCast, BitVec.toNat_ofNat]; exact Nat.mod_eq_of_lt (by omega)
  show IntKind.i64.wrap ((BitVec.ofInt 64 (a : Int) &&& BitVec.ofInt 64 (b : Int)).toNat : Int) = _
  rw [BitVec.toNat_and, h1, h2, IntKind.wrap_i64]
  omega
theorem bits_or_i64 (a b : Nat) (ha : a < 9223372036854775808) (hb : b < 9223372036854775808) :
    bits .or .i64 (a : Int) (b : Int) = ((a ||| b : Nat) : Int) := by
  have hx : a ||| b < 2 ^ 63 := Nat.or_lt_two_pow (by omega) (by omega)
  have h1 : (BitVec.ofInt 64 (a : Int)).toNat = a := by
    rw [BitVec.ofInt_natCast, BitVec.toNat_ofNat]; exact Nat.mod_eq_of_lt (by omega)
  have h2 : (BitVec.ofInt 64 (b : Int)).toNat = b := by
    rw [BitVec.ofInt_natCast, BitVec.toNat_ofNat]; exact Nat.mod_eq_of_lt (by omega)
  show IntKind.i64.wrap ((BitVec.ofInt 64 (a : Int) ||| BitVec.ofInt 64 (b : Int)).toNat : Int) = _
  rw [BitVec.toNat_or, h1, h2, IntKind.wrap_i64]
  omega
theorem or_byte (W b : Nat) (hW : W < 36028797018963968) (hb : b < 256) : bits .or .i64 ((W : Int) * 256) (b : Int) = ((256 * W + b : Nat) : Int) := by
  have o := bits_or_i64 (2 ^ 8 * W) b (by omega) (by omega)
  rw [← Nat.two_pow_add_eq_or_of_lt (i := 8) (by omega)] at o
  rw [show ((W : Int) * 256) = ((2 ^ 8 * W : Nat) : Int) by omega, o]
theorem and_low (t : Nat) (h : t < 9223372036854775808) : bits .and .i64 (t : Int) 65535 = ((t % 65536 : Nat) : Int) := by
  have o := bits_and_i64 t 65535 h (by omega)
  rw [show (65535 : Nat) = 2 ^ 16 - 1 from rfl, Nat.and_two_pow_sub_one_eq_mod] at o
  exact o

attribute [go_sem] bsL_size bsL_at bsL_take bsL_append

set_option maxHeartbeats 400000 in
theorem width_no (b : Int) (w : World) (h : ¬ (1 ≤ b ∧ b ≤ 7)) :
    Calls Try.prog 70 #[.int .i64 b] w fun e w' => e = .returned (.bool false) ∧ w' = w := by
  by_cases h1 : 1 ≤ b
  · have h2 : ¬ b ≤ 7 := by omega
    clear h
    go_enter Try.func70, Try.ntmps70
    go_wp2
    go_ret
    exact ⟨rfl, rfl⟩
  · clear h
    go_enter Try.func70, Try.ntmps70
    go_wp2
    go_ret
    exact ⟨rfl, rfl⟩
set_option maxHeartbeats 400000 in
theorem width_yes (b : Int) (w : World) (h1 : 1 ≤ b) (h2 : b ≤ 7) :
    Calls Try.prog 70 #[.int .i64 b] w fun e w' => e = .returned (.bool true) ∧ w' = w := by
  go_enter Try.func70, Try.ntmps70
  go_wp2
  go_ret
  exact ⟨rfl, rfl⟩

set_option maxHeartbeats 800000 in
theorem pair_any (l : List UInt8) (T : Nat) (w : World) (hl : l.length ≤ 1152921504606846976) (hT : T < l.length) :
    Calls Try.prog 58 #[.string (bsL l), .int .i64 (T : Int)] w fun e w' => e = .returned (.int .i64 (pairL l T : Int)) ∧ w' = w := by
  have b1 := atL_lt l T
  have b2 := atL_lt l (T + 1)
  by_cases h : T + 1 < l.length
  · have E := or_byte (atL l T) (atL l (T + 1)) (by omega) b2
    go_enter Try.func58, Try.ntmps58
    go_wp2
    go_ret
    exact ⟨rfl, rfl⟩
  · have E : Hid (atL l (T + 1) = 0) := atL_end l (T + 1) (by omega)
    go_enter Try.func58, Try.ntmps58
    go_wp2
    go_ret
    exact ⟨ret_int (by unfold pairL; rw [E.out]; omega), rfl⟩

set_option maxHeartbeats 1000000 in
theorem sum_any (l : List UInt8) (w : World) (hl : l.length ≤ 1152921504606846976) :
    Calls Try.prog 41 #[.string (bsL l)] w fun e w' => e = .returned (.int .i64 (sumL l : Int)) ∧ w' = w := by
  go_enter Try.func41, Try.ntmps41
  go_wp2_with fail
  go_loop [3, 4] (fun x y => ∃ (T S : Nat), (T % 2 = 0 ∧ T < l.length + 2 ∧ S = wrapS (pairs (l.take T))) ∧ x = .int .i64 (S : Int) ∧ y = .int .i64 (T : Int)) (fun _ y => (l.length + 2 - (intOf y)).toNat)
  case atStart => exact ⟨0, 0, ⟨rfl, by omega, by simp [pairs, wrapS]⟩, rfl, rfl⟩
  case round =>
    obtain ⟨T, S, hk, rfl, rfl⟩ := hrel
    have HK : Hid (T % 2 = 0 ∧ T < l.length + 2 ∧ S = wrapS (pairs (l.take T))) := hk
    have hS : S ≤ 65535 := by rw [hk.2.2]; exact wrapS_le _
    have hT := hk.2.1
    clear hk
    by_cases hz : T < l.length
    · have p0 := pairL_lt l T
      go_wp2_with fail
      refine (pair_any l T _ hl hz).mono ?_
      rintro e w' ⟨rfl, rfl⟩
      have E := and_low (S + pairL l T) (by omega)
      rw [Int.natCast_add] at E
      go_wp2_with fail
      go_round
      case rel =>
        obtain ⟨h1, h2, h3⟩ := HK.out
        refine ⟨T + 2, wrapS (pairs (l.take (T + 2))), ⟨by omega, by omega, rfl⟩, ?_, by go_num⟩
        rw [pairs_take l T hz h1, ← wrapS_add, ← h3, ← wrap_step hS p0]
        exact congrArg (Value.int IntKind.i64) (by omega)
      case measure => simp [intOf]; omega
    · go_wp2_with fail
      go_ret
      obtain ⟨h1, h2, h3⟩ := HK.out
      rw [List.take_of_length_le (by omega)] at h3
      exact ⟨ret_int (by rw [h3]; unfold sumL; have := wrapS_le (pairs l); omega), rfl⟩

set_option maxHeartbeats 1000000 in
theorem rsum_any (l : List UInt8) (w : World) (hl : l.length ≤ 1152921504606846976) :
    Calls Try.prog 52 #[.string (bsL l)] w fun e w' => e = .returned (.int .i64 (sumL l : Int)) ∧ w' = w := by
  go_enter Try.func52, Try.ntmps52
  go_wp2_with fail
  go_loop [3, 4] (fun x y => ∃ (T S : Nat), (T % 2 = 0 ∧ T < l.length + 2 ∧ S = wrapS (pairs (l.take T))) ∧ x = .int .i64 (S : Int) ∧ y = .int .i64 (T : Int)) (fun _ y => (l.length + 2 - (intOf y)).toNat)
  case atStart => exact ⟨0, 0, ⟨rfl, by omega, by simp [pairs, wrapS]⟩, rfl, rfl⟩
  case round =>
    obtain ⟨T, S, hk, rfl, rfl⟩ := hrel
    have HK : Hid (T % 2 = 0 ∧ T < l.length + 2 ∧ S = wrapS (pairs (l.take T))) := hk
    have hS : S ≤ 65535 := by rw [hk.2.2]; exact wrapS_le _
    have hT := hk.2.1
    clear hk
    by_cases hz : T < l.length
    · have b1 := atL_lt l T
      have b2 := atL_lt l (T + 1)
      have NX : ∀ S' : Int, S' = ((wrapS (S + pairL l T) : Nat) : Int) → Hid (∃ (T' S'' : Nat), (T' % 2 = 0 ∧ T' < l.length + 2 ∧ S'' = wrapS (pairs (l.take T'))) ∧ Value.int IntKind.i64 S' = .int .i64 (S'' : Int) ∧ T' = T + 2) := fun S' e => by
        obtain ⟨h1, h2, h3⟩ := HK.out
        refine ⟨T + 2, wrapS (pairs (l.take (T + 2))), ⟨by omega, by omega, rfl⟩, ?_, rfl⟩
        rw [pairs_take l T hz h1, ← wrapS_add, ← h3, e]
      have NX' : Hid (∀ S' : Int, S' = ((wrapS (S + pairL l T) : Nat) : Int) → Hid (∃ (T' S'' : Nat), (T' % 2 = 0 ∧ T' < l.length + 2 ∧ S'' = wrapS (pairs (l.take T'))) ∧ Value.int IntKind.i64 S' = .int .i64 (S'' : Int) ∧ T' = T + 2)) := NX
      clear NX
      by_cases h : T + 1 < l.length
      · by_cases hv : 65535 < S + (256 * atL l T + atL l (T + 1))
        · have hv' : (65535 : Int) < S + (256 * atL l T + atL l (T + 1)) := by omega
          go_wp2_with fail
          go_round
          case rel =>
            obtain ⟨T', S'', h1, h2, h3⟩ := (NX'.out (S + (256 * atL l T + atL l (T + 1)) - 65535) (by unfold pairL wrapS; split <;> omega)).out
            exact ⟨T', S'', h1, h2, by rw [h3]; go_num⟩
          case measure => simp [intOf]; omega
        · have hv' : ¬ (65535 : Int) < S + (256 * atL l T + atL l (T + 1)) := by omega
          go_wp2_with fail
          go_round
          case rel =>
            obtain ⟨T', S'', h1, h2, h3⟩ := (NX'.out (S + (256 * atL l T + atL l (T + 1))) (by unfold pairL; rw [wrapS_small (by omega)]; omega)).out
            exact ⟨T', S'', h1, h2, by rw [h3]; go_num⟩
          case measure => simp [intOf]; omega
      · have E : Hid (atL l (T + 1) = 0) := atL_end l (T + 1) (by omega)
        by_cases hv : 65535 < S + 256 * atL l T
        · have hv' : (65535 : Int) < S + 256 * atL l T := by omega
          go_wp2_with fail
          go_round
          case rel =>
            obtain ⟨T', S'', h1, h2, h3⟩ := (NX'.out (S + 256 * atL l T - 65535) (by unfold pairL; rw [E.out]; unfold wrapS; split <;> omega)).out
            exact ⟨T', S'', h1, h2, by rw [h3]; go_num⟩
          case measure => simp [intOf]; omega
        · have hv' : ¬ (65535 : Int) < S + 256 * atL l T := by omega
          go_wp2_with fail
          go_round
          case rel =>
            obtain ⟨T', S'', h1, h2, h3⟩ := (NX'.out (S + 256 * atL l T) (by unfold pairL; rw [E.out, wrapS_small (by omega)]; omega)).out
            exact ⟨T', S'', h1, h2, by rw [h3]; go_num⟩
          case measure => simp [intOf]; omega
    · go_wp2_with fail
      go_ret
      obtain ⟨h1, h2, h3⟩ := HK.out
      rw [List.take_of_length_le (by omega)] at h3
      exact ⟨ret_int (by rw [h3]; unfold sumL; have := wrapS_le (pairs l); omega), rfl⟩

set_option maxHeartbeats 800000 in
theorem cut_neg (l : List UInt8) (b : Int) (w : World) (h : b < 0) :
    Calls Try.prog 45 #[.string (bsL l), .int .i64 b] w fun e w' => e = .returned (.tuple #[.string ⟨#[]⟩, .string ⟨#[]⟩, .int .i64 1]) ∧ Below w.heap.size w w' := by
  go_enter Try.func45, Try.ntmps45
  go_wp2
  go_returns
  exact ⟨rfl, Below.refl _ _⟩
set_option maxHeartbeats 800000 in
theorem cut_short (l : List UInt8) (b : Int) (w : World) (h0 : 0 ≤ b) (h : (l.length : Int) < b) :
    Calls Try.prog 45 #[.string (bsL l), .int .i64 b] w fun e w' => e = .returned (.tuple #[.string ⟨#[]⟩, .string ⟨#[]⟩, .int .i64 2]) ∧ Below w.heap.size w w' := by
  go_enter Try.func45, Try.ntmps45
  go_wp2
  go_returns
  exact ⟨rfl, Below.refl _ _⟩
set_option maxHeartbeats 800000 in
theorem cut_ok (l : List UInt8) (k : Nat) (w : World) (h : k ≤ l.length) :
    Calls Try.prog 45 #[.string (bsL l), .int .i64 (k : Int)] w fun e w' => e = .returned (.tuple #[.string (bsL (l.take k)), .string (bsL (l.drop k)), .int .i64 0]) ∧ Below w.heap.size w w' := by
  have D := bsL_drop l k
  rw [bsL_size] at D
  go_enter Try.func45, Try.ntmps45
  go_wp2_with fail
  go_quiet (fail)
  go_wp2_with fail
  go_returns
  exact ⟨rfl, below_drewN (Below.refl _ _) _⟩

set_option maxHeartbeats 800000 in
theorem take_no (l : List UInt8) (b : Int) (w : World) (h : ¬ (1 ≤ b ∧ b ≤ 7)) :
    Calls Try.prog 55 #[.string (bsL l), .int .i64 b] w fun e w' => e = .returned (.tuple #[.int .i64 0, .string ⟨#[]⟩, .int .i64 1]) ∧ Below w.heap.size w w' := by
  go_enter Try.func55, Try.ntmps55
  go_wp2_with fail
  refine (width_no b _ h).mono ?_
  rintro e w' ⟨rfl, rfl⟩
  clear h
  go_wp2_with fail
  go_returns
  exact ⟨rfl, Below.refl _ _⟩
set_option maxHeartbeats 800000 in
theorem take_short (l : List UInt8) (b : Int) (w : World) (h1 : 1 ≤ b) (h2 : b ≤ 7) (h : (l.length : Int) < b) :
    Calls Try.prog 55 #[.string (bsL l), .int .i64 b] w fun e w' => e = .returned (.tuple #[.int .i64 0, .string ⟨#[]⟩, .int .i64 2]) ∧ Below w.heap.size w w' := by
  go_enter Try.func55, Try.ntmps55
  go_wp2_with fail
  refine (width_yes b _ h1 h2).mono ?_
  rintro e w' ⟨rfl, rfl⟩
  go_wp2_with fail
  refine (cut_short l b _ (by omega) h).mono ?_
  rintro e w1 ⟨rfl, b1⟩
  go_wp2_with fail
  go_returns
  exact ⟨rfl, b1⟩
set_option maxHeartbeats 1600000 in
theorem take_ok (l : List UInt8) (k : Nat) (w : World) (h1 : 1 ≤ k) (h2 : k ≤ 7) (h : k ≤ l.length) :
    Calls Try.prog 55 #[.string (bsL l), .int .i64 (k : Int)] w fun e w' => e = .returned (.tuple #[.int .i64 (numL (l.take k) : Int), .string (bsL (l.drop k)), .int .i64 0]) ∧ Below w.heap.size w w' := by
  go_enter Try.func55, Try.ntmps55
  go_wp2_with fail
  refine (width_yes k _ (by omega) (by omega)).mono ?_
  rintro e w' ⟨rfl, rfl⟩
  go_wp2_with fail
  refine (cut_ok l k _ h).mono ?_
  rintro e w1 ⟨rfl, b1⟩
  have hk : (l.take k).length = k := by simp; omega
  have hk2 : (l.take k).take k = l.take k := by rw [List.take_take, Nat.min_self]
  obtain ⟨q, hq⟩ : ∃ q, q = l.take k := ⟨_, rfl⟩
  obtain ⟨r, hr⟩ : ∃ r, r = l.drop k := ⟨_, rfl⟩
  rw [← hq] at hk hk2 ⊢
  rw [← hr]
  have HQ : Hid (q = l.take k ∧ r = l.drop k) := ⟨hq, hr⟩
  clear hk2 hq hr
  rw [← hk] at h1 h2 ⊢
  clear hk h
  go_wp2_with fail
  go_loop [10, 27] (fun x y => ∃ (i S : Nat), (i ≤ q.length ∧ S = numL (q.take i)) ∧ x = .int .i64 (S : Int) ∧ y = .int .i64 (i : Int)) (fun _ y => q.length - (intOf y).toNat)
  case atStart => exact ⟨0, 0, ⟨by omega, rfl⟩, rfl, rfl⟩
  case round =>
    obtain ⟨i, S, hk, rfl, rfl⟩ := hrel
    have HK : Hid (i ≤ q.length ∧ S = numL (q.take i)) := hk
    have hi := hk.1
    have hS : i < q.length → S < 281474976710656 := fun hlt => by
      rw [hk.2]
      have a1 := num_take_lt q i
      have a2 : 256 ^ i ≤ 256 ^ 6 := Nat.pow_le_pow_right (by omega) (by omega)
      omega
    clear hk
    by_cases hz : i < q.length
    · have hS' := hS hz
      clear hS
      have hb := atL_lt q i
      have E := or_byte S (atL q i) (by omega) hb
      go_wp2_with fail
      go_round
      case rel =>
        obtain ⟨g1, g2⟩ := HK.out
        exact ⟨i + 1, 256 * S + atL q i, ⟨by omega, by rw [num_take q i hz, g2]⟩, rfl, by go_num⟩
      case measure => simp [intOf]; omega
    · clear hS
      go_wp2_with fail
      go_returns
      obtain ⟨g1, g2⟩ := HK.out
      rw [List.take_of_length_le (by omega)] at g2
      refine ⟨?_, b1⟩
      rw [← HQ.out.1, ← HQ.out.2, ← g2]
      rfl

set_option maxHeartbeats 1600000 in
theorem number_any (q : List UInt8) (w : World) (h2 : q.length ≤ 7) :
    Calls Try.prog 51 #[.string (bsL q)] w fun e w' => e = .returned (.int .i64 (numL q : Int)) ∧ w' = w := by
  go_enter Try.func51, Try.ntmps51
  go_wp2_with fail
  go_loop [3, 4] (fun x y => ∃ (i S : Nat), (i ≤ q.length ∧ S = numL (q.take i)) ∧ x = .int .i64 (S : Int) ∧ y = .int .i64 (i : Int)) (fun _ y => q.length - (intOf y).toNat)
  case atStart => exact ⟨0, 0, ⟨by omega, rfl⟩, rfl, rfl⟩
  case round =>
    obtain ⟨i, S, hk, rfl, rfl⟩ := hrel
    have HK : Hid (i ≤ q.length ∧ S = numL (q.take i)) := hk
    have hi := hk.1
    have hS : i < q.length → S < 281474976710656 := fun hlt => by
      rw [hk.2]
      have a1 := num_take_lt q i
      have a2 : 256 ^ i ≤ 256 ^ 6 := Nat.pow_le_pow_right (by omega) (by omega)
      omega
    clear hk
    by_cases hz : i < q.length
    · have hS' := hS hz
      have hb := atL_lt q i
      clear hS
      go_wp2_with fail
      go_round
      case rel =>
        obtain ⟨g1, g2⟩ := HK.out
        exact ⟨i + 1, 256 * S + atL q i, ⟨by omega, by rw [num_take q i hz, g2]⟩, by go_num, by go_num⟩
      case measure => simp [intOf]; omega
    · clear hS
      go_wp2_with fail
      go_ret
      obtain ⟨g1, g2⟩ := HK.out
      rw [List.take_of_length_le (by omega)] at g2
      exact ⟨ret_int (by rw [g2]), rfl⟩

theorem toL (l : List UInt8) : (bsL l).toList = l := ByteArray.toList_mk l
theorem back_num (N k : Nat) (x : List UInt8) (h : N < 256 ^ k) : numL ((bytesL N k ++ x).take k) = N := by
  rw [List.take_append_of_le_length (by rw [bytesL_len]; omega), List.take_of_length_le (by rw [bytesL_len]; omega), num_bytes, Nat.mod_eq_of_lt h]
theorem back_rest (N k : Nat) (x : List UInt8) : (bytesL N k ++ x).drop k = x := by
  rw [List.drop_append_of_le_length (by rw [bytesL_len]; omega), List.drop_of_length_le (by rw [bytesL_len]; omega), List.nil_append]
/-- 'make([]T, n)', T of one cell. -/
theorem run_make_full {P : Program} (t e : TypeId) (z : Value) (bytes : Nat) (ht : P.underlying t = some (.slice e)) (hinfo : (P.info? e).map (fun i => (i.zero, i.size, i.bytes)) = some (some z, 1, bytes)) (hz1 : z.cells = #[z])
    (kl kc : IntKind) (n : Nat) (hbytes : bytes * n ≤ 281474976710656) (h63 : n < 9223372036854775807) (w : World) :
    (Instr.makeSlice t (.int kl (n : Int)) (.int kc (n : Int))).run P w = .ok (.slice (some ⟨w.heap.size, 0, none⟩) n n) (w.alloc (.cells (madeCells #[z] n) e)) := by
  obtain ⟨i, hi, hzz⟩ := Option.map_eq_some_iff.1 hinfo
  simp only [Prod.mk.injEq] at hzz
  obtain ⟨hz, hs, hb⟩ := hzz
  have hb' : (i.bytes : Int) * (n : Int) ≤ 281474976710656 := by
    have h : ((i.bytes * n : Nat) : Int) ≤ 281474976710656 := by rw [hb]; omega
    rwa [Int.natCast_mul] at h
  have hr := run_make (P := P) w t e i z ht hi hz kl kc n n (by omega) (by omega) hb' (by omega)
  simp only [Int.toNat_natCast, hs, Nat.mul_one, hz1] at hr
  exact hr
theorem info5 : (Try.prog.info? 5).map (fun i => (i.zero, i.size, i.bytes)) = some (some (.int .u8 0), 1, 1) := by kernel_rfl
theorem pow256 (k : Nat) (h : k ≤ 7) : (2 : Int) ^ (8 * k) = ((256 ^ k : Nat) : Int) ∧ 256 ^ k ≤ 72057594037927936 := by
  have e : k = 0 ∨ k = 1 ∨ k = 2 ∨ k = 3 ∨ k = 4 ∨ k = 5 ∨ k = 6 ∨ k = 7 := by omega
  rcases e with rfl | rfl | rfl | rfl | rfl | rfl | rfl | rfl <;> decide

set_option maxHeartbeats 800000 in
theorem put_width (n b : Int) (w : World) (h : ¬ (1 ≤ b ∧ b ≤ 7)) :
    Calls Try.prog 54 #[.int .i64 n, .int .i64 b] w fun e w' => e = .returned (.tuple #[.string ⟨#[]⟩, .int .i64 1]) ∧ Below w.heap.size w w' := by
  go_enter Try.func54, Try.ntmps54
  go_wp2_with fail
  refine (width_no b _ h).mono ?_
  rintro e w' ⟨rfl, rfl⟩
  clear h
  go_wp2_with fail
  go_returns
  exact ⟨rfl, Below.refl _ _⟩
set_option maxHeartbeats 800000 in
theorem put_neg (n b : Int) (w : World) (h1 : 1 ≤ b) (h2 : b ≤ 7) (h : n < 0) :
    Calls Try.prog 54 #[.int .i64 n, .int .i64 b] w fun e w' => e = .returned (.tuple #[.string ⟨#[]⟩, .int .i64 1]) ∧ Below w.heap.size w w' := by
  go_enter Try.func54, Try.ntmps54
  go_wp2_with fail
  refine (width_yes b _ h1 h2).mono ?_
  rintro e w' ⟨rfl, rfl⟩
  go_wp2_with fail
  go_returns
  exact ⟨rfl, Below.refl _ _⟩
set_option maxHeartbeats 800000 in
theorem put_great (n : Int) (k : Nat) (w : World) (h1 : 1 ≤ k) (h2 : k ≤ 7) (h0 : 0 ≤ n) (h : ((256 ^ k : Nat) : Int) ≤ n) :
    Calls Try.prog 54 #[.int .i64 n, .int .i64 (k : Int)] w fun e w' => e = .returned (.tuple #[.string ⟨#[]⟩, .int .i64 1]) ∧ Below w.heap.size w w' := by
  obtain ⟨e1, e2⟩ := pow256 k h2
  generalize 256 ^ k = G at h e1 e2
  go_enter Try.func54, Try.ntmps54
  go_wp2_with fail
  refine (width_yes k _ (by omega) (by omega)).mono ?_
  rintro e w' ⟨rfl, rfl⟩
  go_wp2_with fail
  go_returns
  exact ⟨rfl, Below.refl _ _⟩
/-- A number that fits so many bytes. -/
def Good (n b : Int) : Prop := 1 ≤ b ∧ b ≤ 7 ∧ 0 ≤ n ∧ n < ((256 ^ b.toNat : Nat) : Int)
theorem Good.nat {n b : Int} (h : Good n b) : ∃ N k : Nat, n = N ∧ b = k ∧ 1 ≤ k ∧ k ≤ 7 ∧ N < 256 ^ k := by
  obtain ⟨h1, h2, h3, h4⟩ := h
  exact ⟨n.toNat, b.toNat, by omega, by omega, by omega, by omega, by omega⟩
theorem put_bad (n b : Int) (w : World) (h : ¬ Good n b) :
    Calls Try.prog 54 #[.int .i64 n, .int .i64 b] w fun e w' => e = .returned (.tuple #[.string ⟨#[]⟩, .int .i64 1]) ∧ Below w.heap.size w w' := by
  by_cases h1 : 1 ≤ b ∧ b ≤ 7
  · by_cases h2 : n < 0
    · exact put_neg n b w h1.1 h1.2 h2
    · obtain ⟨k, rfl⟩ : ∃ k : Nat, b = k := ⟨b.toNat, by omega⟩
      refine put_great n k w (by omega) (by omega) (by omega) ?_
      apply Int.not_lt.1
      intro h3
      exact h ⟨h1.1, h1.2, by omega, h3⟩
  · exact put_width n b w h1
theorem pow3 (k A B : Nat) (hk : k ≤ 3) (hA : A < 256 ^ k) (hB : B < 256 ^ k) : 0 ≤ (A : Int) * 2 ^ (8 * k) ∧ (A : Int) * 2 ^ (8 * k) + B ≤ 281474976710656 := by
  have e : k = 0 ∨ k = 1 ∨ k = 2 ∨ k = 3 := by omega
  rcases e with rfl | rfl | rfl | rfl <;> simp at hA hB ⊢ <;> omega
/-- The row that is written, from the last place on. -/
def PutRow (wr : World) (g K N j : Nat) : Prop := wr.rowIs g 5 K (fun c => .int .u8 (if j ≤ c then ((N / 256 ^ (K - 1 - c) % 256 : Nat) : Int) else 0))
theorem putRow_step {wr : World} {g K N j : Nat} (hj : j < K) (h : PutRow wr g K N (j + 1)) : PutRow (wr.setCell ⟨g, j, none⟩ (.int .u8 ((N / 256 ^ (K - (j + 1)) % 256 : Nat) : Int))) g K N j := by
  refine World.rowIs.congr (World.rowIs.set h j _) fun c hc => ?_
  by_cases e : c = j
  · subst e
    simp [show K - 1 - c = K - (c + 1) by omega]
  · by_cases e2 : j + 1 ≤ c
    · simp [e, e2, show j ≤ c by omega]
    · simp [e, e2, show ¬ j ≤ c by omega]
theorem putRow_end {wr : World} {g K N : Nat} (h : PutRow wr g K N 0) (j : Nat) (hj : j < (bytesL N K).length) : wr.cell? ((⟨g, 0, none⟩ : Addr).add j) = some (.int .u8 ((bytesL N K)[j].toNat : Int)) := by
  have hj' : j < K := by rw [bytesL_len] at hj; exact hj
  rw [Addr.add_lit, Nat.zero_add, World.rowIs.cell h hj', atL_get, bytes_at N K j hj']
  simp
set_option maxHeartbeats 1600000 in
theorem put_ok (N k : Nat) (w : World) (h1 : 1 ≤ k) (h2 : k ≤ 7) (h : N < 256 ^ k) :
    Calls Try.prog 54 #[.int .i64 (N : Int), .int .i64 (k : Int)] w fun e w' => e = .returned (.tuple #[.string (bsL (bytesL N k)), .int .i64 0]) ∧ Below w.heap.size w w' := by
  obtain ⟨e1, e2⟩ := pow256 k h2
  generalize 256 ^ k = G at h e1 e2
  have hmk := run_make_full (P := Try.prog) 51 5 (.int .u8 0) 1 Try.underlying51 info5 rfl .i64 .i64 k (by omega) (by omega)
  have R0 : Hid (PutRow (w.alloc (.cells (madeCells #[.int .u8 0] k) 5)) w.heap.size k N k) := World.rowIs.congr (World.rowIs_made w (.int .u8 0) k 5) fun c hc => by simp [show ¬ k ≤ c by omega]
  have B0 : Hid (Below w.heap.size w (w.alloc (.cells (madeCells #[.int .u8 0] k) 5))) := (Below.refl _ _).alloc (Nat.le_refl _) _
  go_enter Try.func54, Try.ntmps54
  go_wp2_with fail
  refine (width_yes k _ (by omega) (by omega)).mono ?_
  rintro e w' ⟨rfl, rfl⟩
  go_wp2_with fail
  clear hmk
  go_loopg [0, 7] k (fun g x y wr => ∃ (j M : Nat), (g = j ∧ j ≤ k ∧ M = N / 256 ^ (k - j) ∧ Below w'.heap.size w' wr ∧ PutRow wr w'.heap.size k N j) ∧ x = .int .i64 (M : Int) ∧ y = .int .i64 ((j : Int) - 1))
  case atStart => exact ⟨k, N, ⟨rfl, by omega, by simp, B0.out, R0.out⟩, rfl, rfl⟩
  case round =>
    obtain ⟨j, M, ⟨hg, hk, hM, hB, hR⟩, rfl, rfl⟩ := hrel
    have HK : Hid (gk = j ∧ M = N / 256 ^ (k - j) ∧ Below w'.heap.size w' wr ∧ PutRow wr w'.heap.size k N j) := ⟨hg, hM, hB, hR⟩
    have hMN : M ≤ N := by rw [hM]; exact Nat.div_le_self _ _
    clear hg hM hB
    cases j with
    | zero =>
      have hback := run_convert_bytes_back (P := Try.prog) wr 51 9 5 ⟨w'.heap.size, 0, none⟩ k (bytesL N k) Try.underlying51 Try.underlying5 Try.underlying9 (putRow_end hR)
      rw [bytesL_len] at hback
      clear hR
      go_wp2_with fail
      go_returns
      exact ⟨rfl, HK.out.2.2.1⟩
    | succ j =>
      have ck := World.rowIs.cell hR (i := j) (by omega)
      have fk := World.rowIs.frozen hR j
      have ej : ((j + 1 : Nat) : Int) - 1 = (j : Int) := by omega
      rw [ej]
      clear hR ej
      go_wp2_with fail
      go_roundg j
      case measure => have := HK.out.1; omega
      case rel =>
        obtain ⟨g1, g2, g3, g4⟩ := HK.out
        have st := putRow_step (by omega) g4
        rw [← g2] at st
        refine ⟨j, M / 256, ⟨rfl, by omega, ?_, g3.setCell (Nat.le_refl _) _, ?_⟩, by go_num, by go_num⟩
        · rw [g2, show k - j = k - (j + 1) + 1 by omega, div_pow_succ]
        · exact st



end Go.Proofs.Yticopigpgaomjaa
