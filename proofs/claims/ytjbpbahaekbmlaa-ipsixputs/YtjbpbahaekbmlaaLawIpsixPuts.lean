/-
  Any header, of at most 20 extensions of 4096 bytes and 100 bytes of each address, with a body of at most 4096 bytes, is written as the document says, or refused, and taken back, whatever stands behind (at most 4096 bytes). No condition.
-/
import Derived.Test.YtjbpbahaekbmlaaRows
import Derived.Test.YtjbpbahaekbmlaaIp6Open
import Derived.Test.YtjbpbahaekbmlaaIp6Eq
import Derived.Test.YtjbpbahaekbmlaaIp6Piece
import Derived.Test.YtjbpbahaekbmlaaIp6RPut
import Derived.WalkKit
import Derived.ProofKit
import Derived.OpenShut
import Derived.ShutString
import Derived.ChangeOld
import Derived.ChangeMaps5
import Derived.Below
import Derived.Carry
namespace Go.Proofs.Ytjbpbahaekbmlaa.ipsixPuts
open Oc Ip6 Go.Deep
open Go.ChangeShapes Go.WideShapes Go.ChangeAt Go.RowKit Go.ChangeMaps
set_option linter.unusedVariables false

theorem own : ownKnob Try.prog.godebug = none := by kernel_rfl

set_option maxHeartbeats 6400000 in
theorem walk (x : Value) (F : Hd) (b' m' : ByteArray) (w : World) (hx : HdAt w x F ∧ F.ch.length * 24 ≤ 140737488355328) (wb : b'.size ≤ maxLen) (wm : m'.size ≤ maxLen) :
    Calls Try.prog 4 #[x, .string b', .string m'] w fun e w' => e = .returned (.bool true) ∧ Below w.heap.size w w' := by
  obtain ⟨bd, rfl⟩ : ∃ b, b' = bsL b := ⟨_, bsL_of b'⟩
  obtain ⟨m, rfl⟩ : ∃ m, m' = bsL m := ⟨_, bsL_of m'⟩
  rw [bsL_size] at wb wm
  obtain ⟨hF, hn⟩ := hx
  obtain ⟨c, b, h, p, s, d, C⟩ := F
  obtain ⟨v, rfl, hv⟩ := hF
  obtain ⟨A, cap, rfl⟩ := hv.form
  simp only at hn hv
  have HX : Hid (∀ w' : World, Keep w w' → HdAt w' (.agg #[.int .i64 c, .int .i64 b, .int .i64 h, .int .i64 p, .string (bsL s), .string (bsL d), .slice A C.length cap]) ⟨c, b, h, p, s, d, C⟩) := fun w' k => ⟨_, rfl, hv.keep k⟩
  have HN : Hid (C.length * 24 ≤ 140737488355328) := hn
  have hn2 : Hid (C.length ≤ 9223372036854775807) := by show _ ≤ _; omega
  clear hv hn
  obtain ⟨n, hC⟩ : ∃ n, C.length = n := ⟨_, rfl⟩
  rw [hC] at HX
  try rw [hC]
  have HC : Hid (C.length = n) := hC
  clear hC
  by_cases hS : SmallP ⟨c, b, h, p, s, d, C⟩
  rotate_left
  · have HS : Hid (¬ SmallP ⟨c, b, h, p, s, d, C⟩) := hS
    clear hS
    have B1 : Hid (Below w.heap.size w (w.alloc (.cells #[.int .i64 c, .int .i64 b, .int .i64 h, .int .i64 p, .string (bsL s), .string (bsL d), .slice A n cap] 25))) := bel_alloc _ _
    have S1 : Hid (Blk (w.alloc (.cells #[.int .i64 c, .int .i64 b, .int .i64 h, .int .i64 p, .string (bsL s), .string (bsL d), .slice A n cap] 25)) w.heap.size 25 #[.int .i64 c, .int .i64 b, .int .i64 h, .int .i64 p, .string (bsL s), .string (bsL d), .slice A n cap]) := Blk.new _ _ _
    go_enter Try.func4, Try.ntmps4
    go_wp2_with fail
    refine (ref_any _ _ ⟨c, b, h, p, s, d, C⟩ (HX.out _ (keep_of_below B1.out)) HN.out).mono ?_
    rintro e u1 ⟨y, rfl, fy, bb⟩
    have S2 : Hid (Blk u1 w.heap.size 25 #[.int .i64 c, .int .i64 b, .int .i64 h, .int .i64 p, .string (bsL s), .string (bsL d), .slice A n cap]) := S1.out.since bb
    have BU1 : Hid (Below w.heap.size w u1) := bel_trans B1.out bb
    obtain ⟨v', rfl, hv'⟩ := fy
    obtain ⟨A', cap', rfl⟩ := hv'.form
    have HY : Hid (∀ w' : World, Keep u1 w' → HdAt w' (.agg #[.int .i64 c, .int .i64 b, .int .i64 h, .int .i64 p, .string (bsL s), .string (bsL d), .slice A' n cap']) ⟨c, b, h, p, s, d, C⟩) := fun w' k => ⟨_, rfl, by have e := HC.out; subst e; exact hv'.keep k⟩
    rw [HC.out]
    clear hv' bb
    have pl : w.heap.size < u1.heap.size := S2.out.lt
    have BX : Hid (Below w.heap.size w (u1.alloc (.cells #[.int .i64 c, .int .i64 b, .int .i64 h, .int .i64 p, .string (bsL s), .string (bsL d), .slice A' n cap'] 31))) := BU1.out.alloc BU1.out.size _
    have SX : Hid (Blk (u1.alloc (.cells #[.int .i64 c, .int .i64 b, .int .i64 h, .int .i64 p, .string (bsL s), .string (bsL d), .slice A' n cap'] 31)) u1.heap.size 31 #[.int .i64 c, .int .i64 b, .int .i64 h, .int .i64 p, .string (bsL s), .string (bsL d), .slice A' n cap']) := Blk.new _ _ _
    have SH : Hid (Blk (u1.alloc (.cells #[.int .i64 c, .int .i64 b, .int .i64 h, .int .i64 p, .string (bsL s), .string (bsL d), .slice A' n cap'] 31)) w.heap.size 25 #[.int .i64 c, .int .i64 b, .int .i64 h, .int .i64 p, .string (bsL s), .string (bsL d), .slice A n cap]) := S2.out.alloc _
    have KK : Hid (Keep w (u1.alloc (.cells #[.int .i64 c, .int .i64 b, .int .i64 h, .int .i64 p, .string (bsL s), .string (bsL d), .slice A' n cap'] 31)) ∧ Keep u1 (u1.alloc (.cells #[.int .i64 c, .int .i64 b, .int .i64 h, .int .i64 p, .string (bsL s), .string (bsL d), .slice A' n cap'] 31))) := ⟨keep_of_below BX.out, keep_of_below (bel_alloc _ _)⟩
    go_wp2_with fail
    refine (small_any _ _ ⟨c, b, h, p, s, d, C⟩ (HY.out _ KK.out.2) hn2.out).mono ?_
    rintro e u2 ⟨B, rfl, hB, bb⟩
    have eB : B = false := by cases B with
      | false => rfl
      | true => exact absurd (hB.1 rfl) HS.out
    subst eB
    clear hB
    go_wp2_with fail
    refine (awake_any _).mono ?_
    rintro e u9 ⟨rfl, b9⟩
    go_wp2_with fail
    go_ret
    exact ⟨rfl, bel_trans (bel_trans BX.out bb) b9⟩
  have HS : Hid (SmallP ⟨c, b, h, p, s, d, C⟩) := hS
  clear hS
  by_cases g1 : (4096 : Int) < bd.length
  · have B1 : Hid (Below w.heap.size w (w.alloc (.cells #[.int .i64 c, .int .i64 b, .int .i64 h, .int .i64 p, .string (bsL s), .string (bsL d), .slice A n cap] 25))) := bel_alloc _ _
    have S1 : Hid (Blk (w.alloc (.cells #[.int .i64 c, .int .i64 b, .int .i64 h, .int .i64 p, .string (bsL s), .string (bsL d), .slice A n cap] 25)) w.heap.size 25 #[.int .i64 c, .int .i64 b, .int .i64 h, .int .i64 p, .string (bsL s), .string (bsL d), .slice A n cap]) := Blk.new _ _ _
    go_enter Try.func4, Try.ntmps4
    go_wp2_with fail
    refine (ref_any _ _ ⟨c, b, h, p, s, d, C⟩ (HX.out _ (keep_of_below B1.out)) HN.out).mono ?_
    rintro e u1 ⟨y, rfl, fy, bb⟩
    have S2 : Hid (Blk u1 w.heap.size 25 #[.int .i64 c, .int .i64 b, .int .i64 h, .int .i64 p, .string (bsL s), .string (bsL d), .slice A n cap]) := S1.out.since bb
    have BU1 : Hid (Below w.heap.size w u1) := bel_trans B1.out bb
    obtain ⟨v', rfl, hv'⟩ := fy
    obtain ⟨A', cap', rfl⟩ := hv'.form
    have HY : Hid (∀ w' : World, Keep u1 w' → HdAt w' (.agg #[.int .i64 c, .int .i64 b, .int .i64 h, .int .i64 p, .string (bsL s), .string (bsL d), .slice A' n cap']) ⟨c, b, h, p, s, d, C⟩) := fun w' k => ⟨_, rfl, by have e := HC.out; subst e; exact hv'.keep k⟩
    rw [HC.out]
    clear hv' bb
    have pl : w.heap.size < u1.heap.size := S2.out.lt
    have BX : Hid (Below w.heap.size w (u1.alloc (.cells #[.int .i64 c, .int .i64 b, .int .i64 h, .int .i64 p, .string (bsL s), .string (bsL d), .slice A' n cap'] 31))) := BU1.out.alloc BU1.out.size _
    have SX : Hid (Blk (u1.alloc (.cells #[.int .i64 c, .int .i64 b, .int .i64 h, .int .i64 p, .string (bsL s), .string (bsL d), .slice A' n cap'] 31)) u1.heap.size 31 #[.int .i64 c, .int .i64 b, .int .i64 h, .int .i64 p, .string (bsL s), .string (bsL d), .slice A' n cap']) := Blk.new _ _ _
    have SH : Hid (Blk (u1.alloc (.cells #[.int .i64 c, .int .i64 b, .int .i64 h, .int .i64 p, .string (bsL s), .string (bsL d), .slice A' n cap'] 31)) w.heap.size 25 #[.int .i64 c, .int .i64 b, .int .i64 h, .int .i64 p, .string (bsL s), .string (bsL d), .slice A n cap]) := S2.out.alloc _
    have KK : Hid (Keep w (u1.alloc (.cells #[.int .i64 c, .int .i64 b, .int .i64 h, .int .i64 p, .string (bsL s), .string (bsL d), .slice A' n cap'] 31)) ∧ Keep u1 (u1.alloc (.cells #[.int .i64 c, .int .i64 b, .int .i64 h, .int .i64 p, .string (bsL s), .string (bsL d), .slice A' n cap'] 31))) := ⟨keep_of_below BX.out, keep_of_below (bel_alloc _ _)⟩
    go_wp2_with fail
    refine (small_any _ _ ⟨c, b, h, p, s, d, C⟩ (HY.out _ KK.out.2) hn2.out).mono ?_
    rintro e u2 ⟨B, rfl, hB, bb⟩
    have eB : B = true := hB.2 HS.out
    subst eB
    clear hB
    go_wp2_with fail
    refine (awake_any _).mono ?_
    rintro e u9 ⟨rfl, b9⟩
    go_wp2_with fail
    go_ret
    exact ⟨rfl, bel_trans (bel_trans BX.out bb) b9⟩
  by_cases g2 : (4096 : Int) < m.length
  · have B1 : Hid (Below w.heap.size w (w.alloc (.cells #[.int .i64 c, .int .i64 b, .int .i64 h, .int .i64 p, .string (bsL s), .string (bsL d), .slice A n cap] 25))) := bel_alloc _ _
    have S1 : Hid (Blk (w.alloc (.cells #[.int .i64 c, .int .i64 b, .int .i64 h, .int .i64 p, .string (bsL s), .string (bsL d), .slice A n cap] 25)) w.heap.size 25 #[.int .i64 c, .int .i64 b, .int .i64 h, .int .i64 p, .string (bsL s), .string (bsL d), .slice A n cap]) := Blk.new _ _ _
    go_enter Try.func4, Try.ntmps4
    go_wp2_with fail
    refine (ref_any _ _ ⟨c, b, h, p, s, d, C⟩ (HX.out _ (keep_of_below B1.out)) HN.out).mono ?_
    rintro e u1 ⟨y, rfl, fy, bb⟩
    have S2 : Hid (Blk u1 w.heap.size 25 #[.int .i64 c, .int .i64 b, .int .i64 h, .int .i64 p, .string (bsL s), .string (bsL d), .slice A n cap]) := S1.out.since bb
    have BU1 : Hid (Below w.heap.size w u1) := bel_trans B1.out bb
    obtain ⟨v', rfl, hv'⟩ := fy
    obtain ⟨A', cap', rfl⟩ := hv'.form
    have HY : Hid (∀ w' : World, Keep u1 w' → HdAt w' (.agg #[.int .i64 c, .int .i64 b, .int .i64 h, .int .i64 p, .string (bsL s), .string (bsL d), .slice A' n cap']) ⟨c, b, h, p, s, d, C⟩) := fun w' k => ⟨_, rfl, by have e := HC.out; subst e; exact hv'.keep k⟩
    rw [HC.out]
    clear hv' bb
    have pl : w.heap.size < u1.heap.size := S2.out.lt
    have BX : Hid (Below w.heap.size w (u1.alloc (.cells #[.int .i64 c, .int .i64 b, .int .i64 h, .int .i64 p, .string (bsL s), .string (bsL d), .slice A' n cap'] 31))) := BU1.out.alloc BU1.out.size _
    have SX : Hid (Blk (u1.alloc (.cells #[.int .i64 c, .int .i64 b, .int .i64 h, .int .i64 p, .string (bsL s), .string (bsL d), .slice A' n cap'] 31)) u1.heap.size 31 #[.int .i64 c, .int .i64 b, .int .i64 h, .int .i64 p, .string (bsL s), .string (bsL d), .slice A' n cap']) := Blk.new _ _ _
    have SH : Hid (Blk (u1.alloc (.cells #[.int .i64 c, .int .i64 b, .int .i64 h, .int .i64 p, .string (bsL s), .string (bsL d), .slice A' n cap'] 31)) w.heap.size 25 #[.int .i64 c, .int .i64 b, .int .i64 h, .int .i64 p, .string (bsL s), .string (bsL d), .slice A n cap]) := S2.out.alloc _
    have KK : Hid (Keep w (u1.alloc (.cells #[.int .i64 c, .int .i64 b, .int .i64 h, .int .i64 p, .string (bsL s), .string (bsL d), .slice A' n cap'] 31)) ∧ Keep u1 (u1.alloc (.cells #[.int .i64 c, .int .i64 b, .int .i64 h, .int .i64 p, .string (bsL s), .string (bsL d), .slice A' n cap'] 31))) := ⟨keep_of_below BX.out, keep_of_below (bel_alloc _ _)⟩
    go_wp2_with fail
    refine (small_any _ _ ⟨c, b, h, p, s, d, C⟩ (HY.out _ KK.out.2) hn2.out).mono ?_
    rintro e u2 ⟨B, rfl, hB, bb⟩
    have eB : B = true := hB.2 HS.out
    subst eB
    clear hB
    go_wp2_with fail
    refine (awake_any _).mono ?_
    rintro e u9 ⟨rfl, b9⟩
    go_wp2_with fail
    go_ret
    exact ⟨rfl, bel_trans (bel_trans BX.out bb) b9⟩
  have hn3 : Hid (∀ (i : Nat) (x : Ex), C[i]? = some x → x.data.length ≤ 1152921504606846976) := fun i x hx => by have := HS.out.2.2.2 i x hx; omega
  obtain ⟨PB, hPB⟩ : ∃ PB : Bool, PB = true ↔ PieceP C := by
    rcases Classical.em (PieceP C) with h | h
    · exact ⟨true, ⟨fun _ => h, fun _ => rfl⟩⟩
    · exact ⟨false, ⟨fun e => (by cases e), fun e => absurd e h⟩⟩
  have HP : Hid (PB = true ↔ PieceP C) := hPB
  clear hPB
  by_cases hR : RightP ⟨c, b, h, p, s, d, C⟩
  rotate_left
  · have HR : Hid (¬ RightP ⟨c, b, h, p, s, d, C⟩) := hR
    clear hR
    have B1 : Hid (Below w.heap.size w (w.alloc (.cells #[.int .i64 c, .int .i64 b, .int .i64 h, .int .i64 p, .string (bsL s), .string (bsL d), .slice A n cap] 25))) := bel_alloc _ _
    have S1 : Hid (Blk (w.alloc (.cells #[.int .i64 c, .int .i64 b, .int .i64 h, .int .i64 p, .string (bsL s), .string (bsL d), .slice A n cap] 25)) w.heap.size 25 #[.int .i64 c, .int .i64 b, .int .i64 h, .int .i64 p, .string (bsL s), .string (bsL d), .slice A n cap]) := Blk.new _ _ _
    go_enter Try.func4, Try.ntmps4
    go_wp2_with fail
    refine (ref_any _ _ ⟨c, b, h, p, s, d, C⟩ (HX.out _ (keep_of_below B1.out)) HN.out).mono ?_
    rintro e u1 ⟨y, rfl, fy, bb⟩
    have S2 : Hid (Blk u1 w.heap.size 25 #[.int .i64 c, .int .i64 b, .int .i64 h, .int .i64 p, .string (bsL s), .string (bsL d), .slice A n cap]) := S1.out.since bb
    have BU1 : Hid (Below w.heap.size w u1) := bel_trans B1.out bb
    obtain ⟨v', rfl, hv'⟩ := fy
    obtain ⟨A', cap', rfl⟩ := hv'.form
    have HY : Hid (∀ w' : World, Keep u1 w' → HdAt w' (.agg #[.int .i64 c, .int .i64 b, .int .i64 h, .int .i64 p, .string (bsL s), .string (bsL d), .slice A' n cap']) ⟨c, b, h, p, s, d, C⟩) := fun w' k => ⟨_, rfl, by have e := HC.out; subst e; exact hv'.keep k⟩
    rw [HC.out]
    clear hv' bb
    have pl : w.heap.size < u1.heap.size := S2.out.lt
    have BX : Hid (Below w.heap.size w (u1.alloc (.cells #[.int .i64 c, .int .i64 b, .int .i64 h, .int .i64 p, .string (bsL s), .string (bsL d), .slice A' n cap'] 31))) := BU1.out.alloc BU1.out.size _
    have SX : Hid (Blk (u1.alloc (.cells #[.int .i64 c, .int .i64 b, .int .i64 h, .int .i64 p, .string (bsL s), .string (bsL d), .slice A' n cap'] 31)) u1.heap.size 31 #[.int .i64 c, .int .i64 b, .int .i64 h, .int .i64 p, .string (bsL s), .string (bsL d), .slice A' n cap']) := Blk.new _ _ _
    have SH : Hid (Blk (u1.alloc (.cells #[.int .i64 c, .int .i64 b, .int .i64 h, .int .i64 p, .string (bsL s), .string (bsL d), .slice A' n cap'] 31)) w.heap.size 25 #[.int .i64 c, .int .i64 b, .int .i64 h, .int .i64 p, .string (bsL s), .string (bsL d), .slice A n cap]) := S2.out.alloc _
    have KK : Hid (Keep w (u1.alloc (.cells #[.int .i64 c, .int .i64 b, .int .i64 h, .int .i64 p, .string (bsL s), .string (bsL d), .slice A' n cap'] 31)) ∧ Keep u1 (u1.alloc (.cells #[.int .i64 c, .int .i64 b, .int .i64 h, .int .i64 p, .string (bsL s), .string (bsL d), .slice A' n cap'] 31))) := ⟨keep_of_below BX.out, keep_of_below (bel_alloc _ _)⟩
    go_wp2_with fail
    refine (small_any _ _ ⟨c, b, h, p, s, d, C⟩ (HY.out _ KK.out.2) hn2.out).mono ?_
    rintro e u2 ⟨B, rfl, hB, bb⟩
    have eB : B = true := hB.2 HS.out
    subst eB
    clear hB
    have BX2 : Hid (Below w.heap.size w u2) := bel_trans BX.out bb
    have SX2 : Hid (Blk u2 u1.heap.size 31 #[.int .i64 c, .int .i64 b, .int .i64 h, .int .i64 p, .string (bsL s), .string (bsL d), .slice A' n cap']) := SX.out.since bb
    have SH2 : Hid (Blk u2 w.heap.size 25 #[.int .i64 c, .int .i64 b, .int .i64 h, .int .i64 p, .string (bsL s), .string (bsL d), .slice A n cap]) := SH.out.since bb
    have KK2 : Hid (Keep w u2 ∧ Keep u1 u2) := ⟨keep_of_below BX2.out, KK.out.2.trans (keep_of_below bb)⟩
    clear bb
    have x0 : u2.cell? ⟨w.heap.size, 0, none⟩ = some (.int .i64 c) := SH2.out.cell 0
    have x1 : u2.cell? ⟨w.heap.size, 1, none⟩ = some (.int .i64 b) := SH2.out.cell 1
    have x2 : u2.cell? ⟨w.heap.size, 2, none⟩ = some (.int .i64 h) := SH2.out.cell 2
    have x3 : u2.cell? ⟨w.heap.size, 3, none⟩ = some (.int .i64 p) := SH2.out.cell 3
    have x4 : u2.cell? ⟨w.heap.size, 4, none⟩ = some (.string (bsL s)) := SH2.out.cell 4
    have x5 : u2.cell? ⟨w.heap.size, 5, none⟩ = some (.string (bsL d)) := SH2.out.cell 5
    have x6 : u2.cell? ⟨w.heap.size, 6, none⟩ = some (.slice A n cap) := SH2.out.cell 6
    have y0 : u2.cell? ⟨u1.heap.size, 0, none⟩ = some (.int .i64 c) := SX2.out.cell 0
    have y1 : u2.cell? ⟨u1.heap.size, 1, none⟩ = some (.int .i64 b) := SX2.out.cell 1
    have y2 : u2.cell? ⟨u1.heap.size, 2, none⟩ = some (.int .i64 h) := SX2.out.cell 2
    have y3 : u2.cell? ⟨u1.heap.size, 3, none⟩ = some (.int .i64 p) := SX2.out.cell 3
    have y4 : u2.cell? ⟨u1.heap.size, 4, none⟩ = some (.string (bsL s)) := SX2.out.cell 4
    have y5 : u2.cell? ⟨u1.heap.size, 5, none⟩ = some (.string (bsL d)) := SX2.out.cell 5
    have y6 : u2.cell? ⟨u1.heap.size, 6, none⟩ = some (.slice A' n cap') := SX2.out.cell 6
    go_wp2_with fail
    refine (pput_no _ _ ⟨c, b, h, p, s, d, C⟩ bd (HX.out _ KK2.out.1) hn2.out HR.out).mono ?_
    rintro e u3 ⟨rfl, bb⟩
    rw [show bsL [] = ⟨#[]⟩ from rfl]
    have BX3 : Hid (Below w.heap.size w u3) := bel_trans BX2.out bb
    have SX3 : Hid (Blk u3 u1.heap.size 31 #[.int .i64 c, .int .i64 b, .int .i64 h, .int .i64 p, .string (bsL s), .string (bsL d), .slice A' n cap']) := SX2.out.since bb
    have SH3 : Hid (Blk u3 w.heap.size 25 #[.int .i64 c, .int .i64 b, .int .i64 h, .int .i64 p, .string (bsL s), .string (bsL d), .slice A n cap]) := SH2.out.since bb
    have KK3 : Hid (Keep w u3 ∧ Keep u1 u3) := ⟨keep_of_below BX3.out, KK2.out.2.trans (keep_of_below bb)⟩
    clear bb x0 x1 x2 x3 x4 x5 x6 y0 y1 y2 y3 y4 y5 y6
    have x0 : u3.cell? ⟨w.heap.size, 0, none⟩ = some (.int .i64 c) := SH3.out.cell 0
    have x1 : u3.cell? ⟨w.heap.size, 1, none⟩ = some (.int .i64 b) := SH3.out.cell 1
    have x2 : u3.cell? ⟨w.heap.size, 2, none⟩ = some (.int .i64 h) := SH3.out.cell 2
    have x3 : u3.cell? ⟨w.heap.size, 3, none⟩ = some (.int .i64 p) := SH3.out.cell 3
    have x4 : u3.cell? ⟨w.heap.size, 4, none⟩ = some (.string (bsL s)) := SH3.out.cell 4
    have x5 : u3.cell? ⟨w.heap.size, 5, none⟩ = some (.string (bsL d)) := SH3.out.cell 5
    have x6 : u3.cell? ⟨w.heap.size, 6, none⟩ = some (.slice A n cap) := SH3.out.cell 6
    have y0 : u3.cell? ⟨u1.heap.size, 0, none⟩ = some (.int .i64 c) := SX3.out.cell 0
    have y1 : u3.cell? ⟨u1.heap.size, 1, none⟩ = some (.int .i64 b) := SX3.out.cell 1
    have y2 : u3.cell? ⟨u1.heap.size, 2, none⟩ = some (.int .i64 h) := SX3.out.cell 2
    have y3 : u3.cell? ⟨u1.heap.size, 3, none⟩ = some (.int .i64 p) := SX3.out.cell 3
    have y4 : u3.cell? ⟨u1.heap.size, 4, none⟩ = some (.string (bsL s)) := SX3.out.cell 4
    have y5 : u3.cell? ⟨u1.heap.size, 5, none⟩ = some (.string (bsL d)) := SX3.out.cell 5
    have y6 : u3.cell? ⟨u1.heap.size, 6, none⟩ = some (.slice A' n cap') := SX3.out.cell 6
    go_wp2_with fail
    refine (rright_any _ _ ⟨c, b, h, p, s, d, C⟩ (HY.out _ KK3.out.2) hn2.out).mono ?_
    rintro e u4 ⟨B, rfl, hB, bb⟩
    have eB : B = false := Bool.eq_false_iff.2 (fun e => HR.out (hB.1 e))
    subst eB
    clear hB
    have BX4 : Hid (Below w.heap.size w u4) := bel_trans BX3.out bb
    have SX4 : Hid (Blk u4 u1.heap.size 31 #[.int .i64 c, .int .i64 b, .int .i64 h, .int .i64 p, .string (bsL s), .string (bsL d), .slice A' n cap']) := SX3.out.since bb
    have SH4 : Hid (Blk u4 w.heap.size 25 #[.int .i64 c, .int .i64 b, .int .i64 h, .int .i64 p, .string (bsL s), .string (bsL d), .slice A n cap]) := SH3.out.since bb
    have KK4 : Hid (Keep w u4 ∧ Keep u1 u4) := ⟨keep_of_below BX4.out, KK3.out.2.trans (keep_of_below bb)⟩
    clear bb x0 x1 x2 x3 x4 x5 x6 y0 y1 y2 y3 y4 y5 y6
    have x0 : u4.cell? ⟨w.heap.size, 0, none⟩ = some (.int .i64 c) := SH4.out.cell 0
    have x1 : u4.cell? ⟨w.heap.size, 1, none⟩ = some (.int .i64 b) := SH4.out.cell 1
    have x2 : u4.cell? ⟨w.heap.size, 2, none⟩ = some (.int .i64 h) := SH4.out.cell 2
    have x3 : u4.cell? ⟨w.heap.size, 3, none⟩ = some (.int .i64 p) := SH4.out.cell 3
    have x4 : u4.cell? ⟨w.heap.size, 4, none⟩ = some (.string (bsL s)) := SH4.out.cell 4
    have x5 : u4.cell? ⟨w.heap.size, 5, none⟩ = some (.string (bsL d)) := SH4.out.cell 5
    have x6 : u4.cell? ⟨w.heap.size, 6, none⟩ = some (.slice A n cap) := SH4.out.cell 6
    have y0 : u4.cell? ⟨u1.heap.size, 0, none⟩ = some (.int .i64 c) := SX4.out.cell 0
    have y1 : u4.cell? ⟨u1.heap.size, 1, none⟩ = some (.int .i64 b) := SX4.out.cell 1
    have y2 : u4.cell? ⟨u1.heap.size, 2, none⟩ = some (.int .i64 h) := SX4.out.cell 2
    have y3 : u4.cell? ⟨u1.heap.size, 3, none⟩ = some (.int .i64 p) := SX4.out.cell 3
    have y4 : u4.cell? ⟨u1.heap.size, 4, none⟩ = some (.string (bsL s)) := SX4.out.cell 4
    have y5 : u4.cell? ⟨u1.heap.size, 5, none⟩ = some (.string (bsL d)) := SX4.out.cell 5
    have y6 : u4.cell? ⟨u1.heap.size, 6, none⟩ = some (.slice A' n cap') := SX4.out.cell 6
    have KS0 : Hid (∀ q : World, Keep u4.drew q → (q.cell? ⟨w.heap.size, 0, none⟩ = some (.int .i64 c) ∧ q.cell? ⟨w.heap.size, 1, none⟩ = some (.int .i64 b) ∧ q.cell? ⟨w.heap.size, 2, none⟩ = some (.int .i64 h) ∧ q.cell? ⟨w.heap.size, 3, none⟩ = some (.int .i64 p) ∧ q.cell? ⟨w.heap.size, 4, none⟩ = some (.string (bsL s)) ∧ q.cell? ⟨w.heap.size, 5, none⟩ = some (.string (bsL d)) ∧ q.cell? ⟨w.heap.size, 6, none⟩ = some (.slice A n cap) ∧ q.cell? ⟨u1.heap.size, 0, none⟩ = some (.int .i64 c) ∧ q.cell? ⟨u1.heap.size, 1, none⟩ = some (.int .i64 b) ∧ q.cell? ⟨u1.heap.size, 2, none⟩ = some (.int .i64 h) ∧ q.cell? ⟨u1.heap.size, 3, none⟩ = some (.int .i64 p) ∧ q.cell? ⟨u1.heap.size, 4, none⟩ = some (.string (bsL s)) ∧ q.cell? ⟨u1.heap.size, 5, none⟩ = some (.string (bsL d)) ∧ q.cell? ⟨u1.heap.size, 6, none⟩ = some (.slice A' n cap'))) := fun q kq => by
      have kx : Keep u4 q := fun a v e => kq a v e
      exact ⟨kx _ _ x0, kx _ _ x1, kx _ _ x2, kx _ _ x3, kx _ _ x4, kx _ _ x5, kx _ _ x6, kx _ _ y0, kx _ _ y1, kx _ _ y2, kx _ _ y3, kx _ _ y4, kx _ _ y5, kx _ _ y6⟩
    have KD : Hid (Keep w u4.drew ∧ Keep u1 u4.drew) := ⟨keep_heap KK4.out.1 rfl, keep_heap KK4.out.2 rfl⟩
    go_wp2_with fail
    go_region_held3 (fun w' => w'.cell? ⟨w.heap.size, 0, none⟩ = some (.int .i64 c) ∧ w'.cell? ⟨w.heap.size, 1, none⟩ = some (.int .i64 b) ∧ w'.cell? ⟨w.heap.size, 2, none⟩ = some (.int .i64 h) ∧ w'.cell? ⟨w.heap.size, 3, none⟩ = some (.int .i64 p) ∧ w'.cell? ⟨w.heap.size, 4, none⟩ = some (.string (bsL s)) ∧ w'.cell? ⟨w.heap.size, 5, none⟩ = some (.string (bsL d)) ∧ w'.cell? ⟨w.heap.size, 6, none⟩ = some (.slice A n cap) ∧ w'.cell? ⟨u1.heap.size, 0, none⟩ = some (.int .i64 c) ∧ w'.cell? ⟨u1.heap.size, 1, none⟩ = some (.int .i64 b) ∧ w'.cell? ⟨u1.heap.size, 2, none⟩ = some (.int .i64 h) ∧ w'.cell? ⟨u1.heap.size, 3, none⟩ = some (.int .i64 p) ∧ w'.cell? ⟨u1.heap.size, 4, none⟩ = some (.string (bsL s)) ∧ w'.cell? ⟨u1.heap.size, 5, none⟩ = some (.string (bsL d)) ∧ w'.cell? ⟨u1.heap.size, 6, none⟩ = some (.slice A' n cap')) (first | go_keep | exact KQ3.out | exact KQ2.out | exact KQ1.out) (first
      | (go_simp; go_at_call 18; refine (right_any _ _ ⟨c, b, h, p, s, d, C⟩ (HX.out _ KD.out.1) hn2.out).mono ?_; rintro e q1 ⟨B1, rfl, hB, cc1⟩; have eB : B1 = false := Bool.eq_false_iff.2 (fun e => HR.out (hB.1 e)); subst eB; have HW1 : Hid (Keep u4.drew q1) := keep_of_below cc1; have KQ1 : Hid (_) := KS0.out q1 HW1.out; have W1 : Hid (Below w.heap.size w q1) := bel_trans BX4.out ⟨cc1.os, cc1.tape, cc1.output, cc1.size, cc1.block⟩; clear hB cc1)
      | (go_simp; go_at_call 13; refine (piece_any _ _ ⟨c, b, h, p, s, d, C⟩ (HX.out _ (KD.out.1.trans HW1.out)) hn2.out hn3.out).mono ?_; rintro e q2 ⟨B2, rfl, hB, cc2⟩; obtain rfl : PB = B2 := Bool.eq_iff_iff.2 (HP.out.trans hB.symm); have HW2 : Hid (Keep u4.drew q2) := HW1.out.trans (keep_of_below cc2); have KQ2 : Hid (_) := KS0.out q2 HW2.out; have W2 : Hid (Below w.heap.size w q2) := bel_trans W1.out cc2; clear cc2 hB)
      | (go_simp; go_at_call 14; refine (rpiece_any _ _ ⟨c, b, h, p, s, d, C⟩ (HY.out _ (KD.out.2.trans HW2.out)) hn2.out).mono ?_; rintro e q3 ⟨B3, rfl, hB, cc3⟩; obtain rfl : PB = B3 := Bool.eq_iff_iff.2 (HP.out.trans hB.symm); have HW3 : Hid (Keep u4.drew q3) := HW2.out.trans (keep_of_below cc3); have KQ3 : Hid (_) := KS0.out q3 HW3.out; have W3 : Hid (Below w.heap.size w q3) := bel_trans W2.out cc3; have KW3 : Hid (Keep w q3 ∧ Keep u1 q3) := ⟨KD.out.1.trans HW3.out, KD.out.2.trans HW3.out⟩; clear cc3 hB))
    all_goals go_wp2_with fail
    all_goals refine (awake_any _).mono ?_
    all_goals rintro e u9 ⟨rfl, b9⟩
    all_goals go_wp2_with fail
    all_goals go_ret
    all_goals exact ⟨rfl, bel_trans W3.out b9⟩
  obtain ⟨r1, r2, r3, r4, _⟩ := id hR
  simp only at r1 r2 r3 r4
  obtain ⟨Cl, rfl⟩ : ∃ N : Nat, c = N := ⟨c.toNat, by omega⟩
  obtain ⟨Lb, rfl⟩ : ∃ N : Nat, b = N := ⟨b.toNat, by omega⟩
  obtain ⟨Hp, rfl⟩ : ∃ N : Nat, h = N := ⟨h.toNat, by omega⟩
  obtain ⟨Pr, rfl⟩ : ∃ N : Nat, p = N := ⟨p.toNat, by omega⟩
  clear r1 r2 r3 r4
  have HR : Hid (RightP ⟨Cl, Lb, Hp, Pr, s, d, C⟩) := hR
  have LC : Hid ((chainL C Pr).length ≤ 16384 ∧ (chainL C Pr).length + bd.length ≤ 65535) := by
    have e : (chainL C Pr).length ≤ 16384 := right_len hR
    exact ⟨e, by omega⟩
  have PT : Hid (∀ u : World, Keep w u → Calls Try.prog 16 #[.agg #[.int .i64 (Cl : Int), .int .i64 (Lb : Int), .int .i64 (Hp : Int), .int .i64 (Pr : Int), .string (bsL s), .string (bsL d), .slice A n cap], .string (bsL bd)] u (Wrote u (putL ⟨Cl, Lb, Hp, Pr, s, d, C⟩ bd) 0)) := fun u kp =>
    (pput_two u Cl Lb Hp Pr s d bd C A n cap (HX.out u kp) HR.out (by omega)).mono fun e w' h => h.1 LC.out.2
  have RPT : Hid (∀ (u : World) (A' : Option Addr) (cap' : Nat), HdAt u (.agg #[.int .i64 (Cl : Int), .int .i64 (Lb : Int), .int .i64 (Hp : Int), .int .i64 (Pr : Int), .string (bsL s), .string (bsL d), .slice A' n cap']) ⟨Cl, Lb, Hp, Pr, s, d, C⟩ → Calls Try.prog 19 #[.agg #[.int .i64 (Cl : Int), .int .i64 (Lb : Int), .int .i64 (Hp : Int), .int .i64 (Pr : Int), .string (bsL s), .string (bsL d), .slice A' n cap'], .string (bsL bd)] u fun e w' => ∃ B : Value, e = .returned (.tuple #[.string (bsL (putL ⟨Cl, Lb, Hp, Pr, s, d, C⟩ bd)), B]) ∧ Below u.heap.size u w') := fun u A' cap' h => rpput_ok u Cl Lb Hp Pr s d bd C A' n cap' h HR.out LC.out.2
  have BK : Hid (takeE (putL ⟨Cl, Lb, Hp, Pr, s, d, C⟩ bd ++ m) = 0 ∧ hdOf (putL ⟨Cl, Lb, Hp, Pr, s, d, C⟩ bd ++ m) = ⟨Cl, Lb, Hp, Pr, s, d, C⟩ ∧ bodyOf (putL ⟨Cl, Lb, Hp, Pr, s, d, C⟩ bd ++ m) = bd) := back HR.out bd m LC.out.2
  have ZL : Hid ((putL ⟨Cl, Lb, Hp, Pr, s, d, C⟩ bd).length = 40 + ((chainL C Pr).length + bd.length)) := put_len HR.out bd
  clear hR
  generalize putL ⟨Cl, Lb, Hp, Pr, s, d, C⟩ bd = Zp at PT RPT BK ZL
  have zl : Zp.length ≤ 65575 := by have := ZL.out; have := LC.out.2; omega
  have tl : (Zp ++ m).length ≤ 1152921504606846976 := by rw [List.length_append]; omega
  have cs : ¬ 9223372036854775807 < Zp.length + m.length := by omega
  have B1 : Hid (Below w.heap.size w (w.alloc (.cells #[.int .i64 (Cl : Int), .int .i64 (Lb : Int), .int .i64 (Hp : Int), .int .i64 (Pr : Int), .string (bsL s), .string (bsL d), .slice A n cap] 25))) := bel_alloc _ _
  have S1 : Hid (Blk (w.alloc (.cells #[.int .i64 (Cl : Int), .int .i64 (Lb : Int), .int .i64 (Hp : Int), .int .i64 (Pr : Int), .string (bsL s), .string (bsL d), .slice A n cap] 25)) w.heap.size 25 #[.int .i64 (Cl : Int), .int .i64 (Lb : Int), .int .i64 (Hp : Int), .int .i64 (Pr : Int), .string (bsL s), .string (bsL d), .slice A n cap]) := Blk.new _ _ _
  go_enter Try.func4, Try.ntmps4
  go_wp2_with fail
  refine (ref_any _ _ ⟨Cl, Lb, Hp, Pr, s, d, C⟩ (HX.out _ (keep_of_below B1.out)) HN.out).mono ?_
  rintro e u1 ⟨y, rfl, fy, bb⟩
  have S2 : Hid (Blk u1 w.heap.size 25 #[.int .i64 (Cl : Int), .int .i64 (Lb : Int), .int .i64 (Hp : Int), .int .i64 (Pr : Int), .string (bsL s), .string (bsL d), .slice A n cap]) := S1.out.since bb
  have BU1 : Hid (Below w.heap.size w u1) := bel_trans B1.out bb
  obtain ⟨v', rfl, hv'⟩ := fy
  obtain ⟨A', cap', rfl⟩ := hv'.form
  have HY : Hid (∀ w' : World, Keep u1 w' → HdAt w' (.agg #[.int .i64 (Cl : Int), .int .i64 (Lb : Int), .int .i64 (Hp : Int), .int .i64 (Pr : Int), .string (bsL s), .string (bsL d), .slice A' n cap']) ⟨Cl, Lb, Hp, Pr, s, d, C⟩) := fun w' k => ⟨_, rfl, by have e := HC.out; subst e; exact hv'.keep k⟩
  rw [HC.out]
  clear hv' bb
  have pl : w.heap.size < u1.heap.size := S2.out.lt
  have BX : Hid (Below w.heap.size w (u1.alloc (.cells #[.int .i64 (Cl : Int), .int .i64 (Lb : Int), .int .i64 (Hp : Int), .int .i64 (Pr : Int), .string (bsL s), .string (bsL d), .slice A' n cap'] 31))) := BU1.out.alloc BU1.out.size _
  have SX : Hid (Blk (u1.alloc (.cells #[.int .i64 (Cl : Int), .int .i64 (Lb : Int), .int .i64 (Hp : Int), .int .i64 (Pr : Int), .string (bsL s), .string (bsL d), .slice A' n cap'] 31)) u1.heap.size 31 #[.int .i64 (Cl : Int), .int .i64 (Lb : Int), .int .i64 (Hp : Int), .int .i64 (Pr : Int), .string (bsL s), .string (bsL d), .slice A' n cap']) := Blk.new _ _ _
  have SH : Hid (Blk (u1.alloc (.cells #[.int .i64 (Cl : Int), .int .i64 (Lb : Int), .int .i64 (Hp : Int), .int .i64 (Pr : Int), .string (bsL s), .string (bsL d), .slice A' n cap'] 31)) w.heap.size 25 #[.int .i64 (Cl : Int), .int .i64 (Lb : Int), .int .i64 (Hp : Int), .int .i64 (Pr : Int), .string (bsL s), .string (bsL d), .slice A n cap]) := S2.out.alloc _
  have KK : Hid (Keep w (u1.alloc (.cells #[.int .i64 (Cl : Int), .int .i64 (Lb : Int), .int .i64 (Hp : Int), .int .i64 (Pr : Int), .string (bsL s), .string (bsL d), .slice A' n cap'] 31)) ∧ Keep u1 (u1.alloc (.cells #[.int .i64 (Cl : Int), .int .i64 (Lb : Int), .int .i64 (Hp : Int), .int .i64 (Pr : Int), .string (bsL s), .string (bsL d), .slice A' n cap'] 31))) := ⟨keep_of_below BX.out, keep_of_below (bel_alloc _ _)⟩
  go_wp2_with fail
  refine (small_any _ _ ⟨Cl, Lb, Hp, Pr, s, d, C⟩ (HY.out _ KK.out.2) hn2.out).mono ?_
  rintro e u2 ⟨B, rfl, hB, bb⟩
  have eB : B = true := hB.2 HS.out
  subst eB
  clear hB
  have BX2 : Hid (Below w.heap.size w u2) := bel_trans BX.out bb
  have SX2 : Hid (Blk u2 u1.heap.size 31 #[.int .i64 (Cl : Int), .int .i64 (Lb : Int), .int .i64 (Hp : Int), .int .i64 (Pr : Int), .string (bsL s), .string (bsL d), .slice A' n cap']) := SX.out.since bb
  have SH2 : Hid (Blk u2 w.heap.size 25 #[.int .i64 (Cl : Int), .int .i64 (Lb : Int), .int .i64 (Hp : Int), .int .i64 (Pr : Int), .string (bsL s), .string (bsL d), .slice A n cap]) := SH.out.since bb
  have KK2 : Hid (Keep w u2 ∧ Keep u1 u2) := ⟨keep_of_below BX2.out, KK.out.2.trans (keep_of_below bb)⟩
  clear bb
  have x0 : u2.cell? ⟨w.heap.size, 0, none⟩ = some (.int .i64 (Cl : Int)) := SH2.out.cell 0
  have x1 : u2.cell? ⟨w.heap.size, 1, none⟩ = some (.int .i64 (Lb : Int)) := SH2.out.cell 1
  have x2 : u2.cell? ⟨w.heap.size, 2, none⟩ = some (.int .i64 (Hp : Int)) := SH2.out.cell 2
  have x3 : u2.cell? ⟨w.heap.size, 3, none⟩ = some (.int .i64 (Pr : Int)) := SH2.out.cell 3
  have x4 : u2.cell? ⟨w.heap.size, 4, none⟩ = some (.string (bsL s)) := SH2.out.cell 4
  have x5 : u2.cell? ⟨w.heap.size, 5, none⟩ = some (.string (bsL d)) := SH2.out.cell 5
  have x6 : u2.cell? ⟨w.heap.size, 6, none⟩ = some (.slice A n cap) := SH2.out.cell 6
  have y0 : u2.cell? ⟨u1.heap.size, 0, none⟩ = some (.int .i64 (Cl : Int)) := SX2.out.cell 0
  have y1 : u2.cell? ⟨u1.heap.size, 1, none⟩ = some (.int .i64 (Lb : Int)) := SX2.out.cell 1
  have y2 : u2.cell? ⟨u1.heap.size, 2, none⟩ = some (.int .i64 (Hp : Int)) := SX2.out.cell 2
  have y3 : u2.cell? ⟨u1.heap.size, 3, none⟩ = some (.int .i64 (Pr : Int)) := SX2.out.cell 3
  have y4 : u2.cell? ⟨u1.heap.size, 4, none⟩ = some (.string (bsL s)) := SX2.out.cell 4
  have y5 : u2.cell? ⟨u1.heap.size, 5, none⟩ = some (.string (bsL d)) := SX2.out.cell 5
  have y6 : u2.cell? ⟨u1.heap.size, 6, none⟩ = some (.slice A' n cap') := SX2.out.cell 6
  go_wp2_with fail
  refine (PT.out _ KK2.out.1).mono ?_
  rintro e u3 ⟨rfl, bb⟩
  have BX3 : Hid (Below w.heap.size w u3) := bel_trans BX2.out bb
  have SX3 : Hid (Blk u3 u1.heap.size 31 #[.int .i64 (Cl : Int), .int .i64 (Lb : Int), .int .i64 (Hp : Int), .int .i64 (Pr : Int), .string (bsL s), .string (bsL d), .slice A' n cap']) := SX2.out.since bb
  have SH3 : Hid (Blk u3 w.heap.size 25 #[.int .i64 (Cl : Int), .int .i64 (Lb : Int), .int .i64 (Hp : Int), .int .i64 (Pr : Int), .string (bsL s), .string (bsL d), .slice A n cap]) := SH2.out.since bb
  have KK3 : Hid (Keep w u3 ∧ Keep u1 u3) := ⟨keep_of_below BX3.out, KK2.out.2.trans (keep_of_below bb)⟩
  clear bb x0 x1 x2 x3 x4 x5 x6 y0 y1 y2 y3 y4 y5 y6
  have x0 : u3.cell? ⟨w.heap.size, 0, none⟩ = some (.int .i64 (Cl : Int)) := SH3.out.cell 0
  have x1 : u3.cell? ⟨w.heap.size, 1, none⟩ = some (.int .i64 (Lb : Int)) := SH3.out.cell 1
  have x2 : u3.cell? ⟨w.heap.size, 2, none⟩ = some (.int .i64 (Hp : Int)) := SH3.out.cell 2
  have x3 : u3.cell? ⟨w.heap.size, 3, none⟩ = some (.int .i64 (Pr : Int)) := SH3.out.cell 3
  have x4 : u3.cell? ⟨w.heap.size, 4, none⟩ = some (.string (bsL s)) := SH3.out.cell 4
  have x5 : u3.cell? ⟨w.heap.size, 5, none⟩ = some (.string (bsL d)) := SH3.out.cell 5
  have x6 : u3.cell? ⟨w.heap.size, 6, none⟩ = some (.slice A n cap) := SH3.out.cell 6
  have y0 : u3.cell? ⟨u1.heap.size, 0, none⟩ = some (.int .i64 (Cl : Int)) := SX3.out.cell 0
  have y1 : u3.cell? ⟨u1.heap.size, 1, none⟩ = some (.int .i64 (Lb : Int)) := SX3.out.cell 1
  have y2 : u3.cell? ⟨u1.heap.size, 2, none⟩ = some (.int .i64 (Hp : Int)) := SX3.out.cell 2
  have y3 : u3.cell? ⟨u1.heap.size, 3, none⟩ = some (.int .i64 (Pr : Int)) := SX3.out.cell 3
  have y4 : u3.cell? ⟨u1.heap.size, 4, none⟩ = some (.string (bsL s)) := SX3.out.cell 4
  have y5 : u3.cell? ⟨u1.heap.size, 5, none⟩ = some (.string (bsL d)) := SX3.out.cell 5
  have y6 : u3.cell? ⟨u1.heap.size, 6, none⟩ = some (.slice A' n cap') := SX3.out.cell 6
  go_wp2_with fail
  refine (rright_any _ _ ⟨Cl, Lb, Hp, Pr, s, d, C⟩ (HY.out _ KK3.out.2) hn2.out).mono ?_
  rintro e u4 ⟨B, rfl, hB, bb⟩
  have eB : B = true := hB.2 HR.out
  subst eB
  clear hB
  have BX4 : Hid (Below w.heap.size w u4) := bel_trans BX3.out bb
  have SX4 : Hid (Blk u4 u1.heap.size 31 #[.int .i64 (Cl : Int), .int .i64 (Lb : Int), .int .i64 (Hp : Int), .int .i64 (Pr : Int), .string (bsL s), .string (bsL d), .slice A' n cap']) := SX3.out.since bb
  have SH4 : Hid (Blk u4 w.heap.size 25 #[.int .i64 (Cl : Int), .int .i64 (Lb : Int), .int .i64 (Hp : Int), .int .i64 (Pr : Int), .string (bsL s), .string (bsL d), .slice A n cap]) := SH3.out.since bb
  have KK4 : Hid (Keep w u4 ∧ Keep u1 u4) := ⟨keep_of_below BX4.out, KK3.out.2.trans (keep_of_below bb)⟩
  clear bb x0 x1 x2 x3 x4 x5 x6 y0 y1 y2 y3 y4 y5 y6
  have x0 : u4.cell? ⟨w.heap.size, 0, none⟩ = some (.int .i64 (Cl : Int)) := SH4.out.cell 0
  have x1 : u4.cell? ⟨w.heap.size, 1, none⟩ = some (.int .i64 (Lb : Int)) := SH4.out.cell 1
  have x2 : u4.cell? ⟨w.heap.size, 2, none⟩ = some (.int .i64 (Hp : Int)) := SH4.out.cell 2
  have x3 : u4.cell? ⟨w.heap.size, 3, none⟩ = some (.int .i64 (Pr : Int)) := SH4.out.cell 3
  have x4 : u4.cell? ⟨w.heap.size, 4, none⟩ = some (.string (bsL s)) := SH4.out.cell 4
  have x5 : u4.cell? ⟨w.heap.size, 5, none⟩ = some (.string (bsL d)) := SH4.out.cell 5
  have x6 : u4.cell? ⟨w.heap.size, 6, none⟩ = some (.slice A n cap) := SH4.out.cell 6
  have y0 : u4.cell? ⟨u1.heap.size, 0, none⟩ = some (.int .i64 (Cl : Int)) := SX4.out.cell 0
  have y1 : u4.cell? ⟨u1.heap.size, 1, none⟩ = some (.int .i64 (Lb : Int)) := SX4.out.cell 1
  have y2 : u4.cell? ⟨u1.heap.size, 2, none⟩ = some (.int .i64 (Hp : Int)) := SX4.out.cell 2
  have y3 : u4.cell? ⟨u1.heap.size, 3, none⟩ = some (.int .i64 (Pr : Int)) := SX4.out.cell 3
  have y4 : u4.cell? ⟨u1.heap.size, 4, none⟩ = some (.string (bsL s)) := SX4.out.cell 4
  have y5 : u4.cell? ⟨u1.heap.size, 5, none⟩ = some (.string (bsL d)) := SX4.out.cell 5
  have y6 : u4.cell? ⟨u1.heap.size, 6, none⟩ = some (.slice A' n cap') := SX4.out.cell 6
  have KS0 : Hid (∀ q : World, Keep u4.drew q → (q.cell? ⟨w.heap.size, 0, none⟩ = some (.int .i64 (Cl : Int)) ∧ q.cell? ⟨w.heap.size, 1, none⟩ = some (.int .i64 (Lb : Int)) ∧ q.cell? ⟨w.heap.size, 2, none⟩ = some (.int .i64 (Hp : Int)) ∧ q.cell? ⟨w.heap.size, 3, none⟩ = some (.int .i64 (Pr : Int)) ∧ q.cell? ⟨w.heap.size, 4, none⟩ = some (.string (bsL s)) ∧ q.cell? ⟨w.heap.size, 5, none⟩ = some (.string (bsL d)) ∧ q.cell? ⟨w.heap.size, 6, none⟩ = some (.slice A n cap) ∧ q.cell? ⟨u1.heap.size, 0, none⟩ = some (.int .i64 (Cl : Int)) ∧ q.cell? ⟨u1.heap.size, 1, none⟩ = some (.int .i64 (Lb : Int)) ∧ q.cell? ⟨u1.heap.size, 2, none⟩ = some (.int .i64 (Hp : Int)) ∧ q.cell? ⟨u1.heap.size, 3, none⟩ = some (.int .i64 (Pr : Int)) ∧ q.cell? ⟨u1.heap.size, 4, none⟩ = some (.string (bsL s)) ∧ q.cell? ⟨u1.heap.size, 5, none⟩ = some (.string (bsL d)) ∧ q.cell? ⟨u1.heap.size, 6, none⟩ = some (.slice A' n cap'))) := fun q kq => by
    have kx : Keep u4 q := fun a v e => kq a v e
    exact ⟨kx _ _ x0, kx _ _ x1, kx _ _ x2, kx _ _ x3, kx _ _ x4, kx _ _ x5, kx _ _ x6, kx _ _ y0, kx _ _ y1, kx _ _ y2, kx _ _ y3, kx _ _ y4, kx _ _ y5, kx _ _ y6⟩
  have KD : Hid (Keep w u4.drew ∧ Keep u1 u4.drew) := ⟨keep_heap KK4.out.1 rfl, keep_heap KK4.out.2 rfl⟩
  go_wp2_with fail
  go_region_held3 (fun w' => w'.cell? ⟨w.heap.size, 0, none⟩ = some (.int .i64 (Cl : Int)) ∧ w'.cell? ⟨w.heap.size, 1, none⟩ = some (.int .i64 (Lb : Int)) ∧ w'.cell? ⟨w.heap.size, 2, none⟩ = some (.int .i64 (Hp : Int)) ∧ w'.cell? ⟨w.heap.size, 3, none⟩ = some (.int .i64 (Pr : Int)) ∧ w'.cell? ⟨w.heap.size, 4, none⟩ = some (.string (bsL s)) ∧ w'.cell? ⟨w.heap.size, 5, none⟩ = some (.string (bsL d)) ∧ w'.cell? ⟨w.heap.size, 6, none⟩ = some (.slice A n cap) ∧ w'.cell? ⟨u1.heap.size, 0, none⟩ = some (.int .i64 (Cl : Int)) ∧ w'.cell? ⟨u1.heap.size, 1, none⟩ = some (.int .i64 (Lb : Int)) ∧ w'.cell? ⟨u1.heap.size, 2, none⟩ = some (.int .i64 (Hp : Int)) ∧ w'.cell? ⟨u1.heap.size, 3, none⟩ = some (.int .i64 (Pr : Int)) ∧ w'.cell? ⟨u1.heap.size, 4, none⟩ = some (.string (bsL s)) ∧ w'.cell? ⟨u1.heap.size, 5, none⟩ = some (.string (bsL d)) ∧ w'.cell? ⟨u1.heap.size, 6, none⟩ = some (.slice A' n cap')) (first | go_keep | exact KQ3.out | exact KQ2.out | exact KQ1.out) (first
    | (go_simp; go_at_call 18; refine (right_any _ _ ⟨Cl, Lb, Hp, Pr, s, d, C⟩ (HX.out _ KD.out.1) hn2.out).mono ?_; rintro e q1 ⟨B1, rfl, hB, cc1⟩; have eB : B1 = true := hB.2 HR.out; subst eB; have HW1 : Hid (Keep u4.drew q1) := keep_of_below cc1; have KQ1 : Hid (_) := KS0.out q1 HW1.out; have W1 : Hid (Below w.heap.size w q1) := bel_trans BX4.out ⟨cc1.os, cc1.tape, cc1.output, cc1.size, cc1.block⟩; clear hB cc1)
    | (go_simp; go_at_call 13; refine (piece_any _ _ ⟨Cl, Lb, Hp, Pr, s, d, C⟩ (HX.out _ (KD.out.1.trans HW1.out)) hn2.out hn3.out).mono ?_; rintro e q2 ⟨B2, rfl, hB, cc2⟩; obtain rfl : PB = B2 := Bool.eq_iff_iff.2 (HP.out.trans hB.symm); have HW2 : Hid (Keep u4.drew q2) := HW1.out.trans (keep_of_below cc2); have KQ2 : Hid (_) := KS0.out q2 HW2.out; have W2 : Hid (Below w.heap.size w q2) := bel_trans W1.out cc2; clear cc2 hB)
    | (go_simp; go_at_call 14; refine (rpiece_any _ _ ⟨Cl, Lb, Hp, Pr, s, d, C⟩ (HY.out _ (KD.out.2.trans HW2.out)) hn2.out).mono ?_; rintro e q3 ⟨B3, rfl, hB, cc3⟩; obtain rfl : PB = B3 := Bool.eq_iff_iff.2 (HP.out.trans hB.symm); have HW3 : Hid (Keep u4.drew q3) := HW2.out.trans (keep_of_below cc3); have KQ3 : Hid (_) := KS0.out q3 HW3.out; have W3 : Hid (Below w.heap.size w q3) := bel_trans W2.out cc3; have KW3 : Hid (Keep w q3 ∧ Keep u1 q3) := ⟨KD.out.1.trans HW3.out, KD.out.2.trans HW3.out⟩; clear cc3 hB))
  all_goals have Z3 := KQ3.out
  all_goals obtain ⟨x0, x1, x2, x3, x4, x5, x6, y0, y1, y2, y3, y4, y5, y6⟩ := Z3
  all_goals go_wp2_with fail
  all_goals refine (RPT.out _ _ _ (HY.out _ KW3.out.2)).mono ?_
  all_goals rintro e u5 ⟨BV, rfl, bb⟩
  all_goals have BX5 : Hid (Below w.heap.size w u5) := bel_trans W3.out bb
  all_goals have KK5 : Hid (Keep u1 u5) := KW3.out.2.trans (keep_of_below bb)
  all_goals have KC5 : Hid (Keep q3 u5) := keep_of_below bb
  all_goals clear bb
  all_goals go_wp2_with fail
  all_goals refine (ptake_any _ (Zp ++ m) tl).mono ?_
  all_goals rintro e u6 ⟨c6, b6, h6, p6, s6, d6, C6, A6, n6, k6, r6, E6, rfl, hq, hC6, bb⟩
  all_goals obtain ⟨rfl, rfl, rfl, rfl, rfl, rfl, rfl⟩ := Hd.mk.inj (BK.out.2.1.symm.trans hq.1)
  all_goals obtain rfl := BK.out.2.2.symm.trans hq.2.1
  all_goals obtain rfl := hq.2.2.1.symm.trans BK.out.1
  all_goals obtain rfl := HC.out.symm.trans hq.2.2.2
  all_goals have HG : Hid (∀ w' : World, Keep u6 w' → HdAt w' (.agg #[.int .i64 (Cl : Int), .int .i64 (Lb : Int), .int .i64 (Hp : Int), .int .i64 (Pr : Int), .string (bsL s), .string (bsL d), .slice A6 n k6]) ⟨Cl, Lb, Hp, Pr, s, d, C⟩) := fun w' k => ⟨_, rfl, by have e := HC.out; subst e; exact hC6.keep k⟩
  all_goals have BU6 : Hid (Below w.heap.size w u6) := bel_trans BX5.out bb
  all_goals have KC6 : Hid (Keep q3 u6) := KC5.out.trans (keep_of_below bb)
  all_goals have KK6 : Hid (Keep u1 u6) := KK5.out.trans (keep_of_below bb)
  all_goals clear hq hC6 bb
  all_goals have K7 : Hid (Below w.heap.size w (u6.alloc (.cells #[.int .i64 (Cl : Int), .int .i64 (Lb : Int), .int .i64 (Hp : Int), .int .i64 (Pr : Int), .string (bsL s), .string (bsL d), .slice A6 n k6] 25)) ∧ Keep u6 (u6.alloc (.cells #[.int .i64 (Cl : Int), .int .i64 (Lb : Int), .int .i64 (Hp : Int), .int .i64 (Pr : Int), .string (bsL s), .string (bsL d), .slice A6 n k6] 25)).drew ∧ Keep u1 (u6.alloc (.cells #[.int .i64 (Cl : Int), .int .i64 (Lb : Int), .int .i64 (Hp : Int), .int .i64 (Pr : Int), .string (bsL s), .string (bsL d), .slice A6 n k6] 25)).drew) := ⟨BU6.out.alloc BU6.out.size _, keep_heap (keep_of_below (bel_alloc _ _)) rfl, keep_heap (KK6.out.trans (keep_of_below (bel_alloc _ _))) rfl⟩
  all_goals have z0 := KC6.out _ _ y0
  all_goals have z1 := KC6.out _ _ y1
  all_goals have z2 := KC6.out _ _ y2
  all_goals have z3 := KC6.out _ _ y3
  all_goals have z4 := KC6.out _ _ y4
  all_goals have z5 := KC6.out _ _ y5
  all_goals have z6 := KC6.out _ _ y6
  all_goals have pl6 : u1.heap.size < u6.heap.size := World.block_lt_of_cell? _ _ z0
  all_goals clear x0 x1 x2 x3 x4 x5 x6 y0 y1 y2 y3 y4 y5 y6 KQ1 KQ2 KQ3
  all_goals have KS2 : Hid (∀ q : World, Keep (u6.alloc (.cells #[.int .i64 (Cl : Int), .int .i64 (Lb : Int), .int .i64 (Hp : Int), .int .i64 (Pr : Int), .string (bsL s), .string (bsL d), .slice A6 n k6] 25)).drew q → (q.cell? ⟨u6.heap.size, 0, none⟩ = some (.int .i64 (Cl : Int)) ∧ q.cell? ⟨u6.heap.size, 1, none⟩ = some (.int .i64 (Lb : Int)) ∧ q.cell? ⟨u6.heap.size, 2, none⟩ = some (.int .i64 (Hp : Int)) ∧ q.cell? ⟨u6.heap.size, 3, none⟩ = some (.int .i64 (Pr : Int)) ∧ q.cell? ⟨u6.heap.size, 4, none⟩ = some (.string (bsL s)) ∧ q.cell? ⟨u6.heap.size, 5, none⟩ = some (.string (bsL d)) ∧ q.cell? ⟨u6.heap.size, 6, none⟩ = some (.slice A6 n k6) ∧ q.cell? ⟨u1.heap.size, 0, none⟩ = some (.int .i64 (Cl : Int)) ∧ q.cell? ⟨u1.heap.size, 1, none⟩ = some (.int .i64 (Lb : Int)) ∧ q.cell? ⟨u1.heap.size, 2, none⟩ = some (.int .i64 (Hp : Int)) ∧ q.cell? ⟨u1.heap.size, 3, none⟩ = some (.int .i64 (Pr : Int)) ∧ q.cell? ⟨u1.heap.size, 4, none⟩ = some (.string (bsL s)) ∧ q.cell? ⟨u1.heap.size, 5, none⟩ = some (.string (bsL d)) ∧ q.cell? ⟨u1.heap.size, 6, none⟩ = some (.slice A' n cap'))) := (fun q kq => by
    have kx : Keep u6 q := K7.out.2.1.trans kq
    have ky : Keep (u6.alloc (.cells #[.int .i64 (Cl : Int), .int .i64 (Lb : Int), .int .i64 (Hp : Int), .int .i64 (Pr : Int), .string (bsL s), .string (bsL d), .slice A6 n k6] 25)) q := fun a v e => kq a v e
    have nb := Blk.new u6 25 #[.int .i64 (Cl : Int), .int .i64 (Lb : Int), .int .i64 (Hp : Int), .int .i64 (Pr : Int), .string (bsL s), .string (bsL d), .slice A6 n k6]
    exact ⟨ky _ _ (nb.cell 0), ky _ _ (nb.cell 1), ky _ _ (nb.cell 2), ky _ _ (nb.cell 3), ky _ _ (nb.cell 4), ky _ _ (nb.cell 5), ky _ _ (nb.cell 6), kx _ _ z0, kx _ _ z1, kx _ _ z2, kx _ _ z3, kx _ _ z4, kx _ _ z5, kx _ _ z6⟩)
  all_goals go_wp2_with fail
  all_goals go_region_held3 (fun w' => w'.cell? ⟨u6.heap.size, 0, none⟩ = some (.int .i64 (Cl : Int)) ∧ w'.cell? ⟨u6.heap.size, 1, none⟩ = some (.int .i64 (Lb : Int)) ∧ w'.cell? ⟨u6.heap.size, 2, none⟩ = some (.int .i64 (Hp : Int)) ∧ w'.cell? ⟨u6.heap.size, 3, none⟩ = some (.int .i64 (Pr : Int)) ∧ w'.cell? ⟨u6.heap.size, 4, none⟩ = some (.string (bsL s)) ∧ w'.cell? ⟨u6.heap.size, 5, none⟩ = some (.string (bsL d)) ∧ w'.cell? ⟨u6.heap.size, 6, none⟩ = some (.slice A6 n k6) ∧ w'.cell? ⟨u1.heap.size, 0, none⟩ = some (.int .i64 (Cl : Int)) ∧ w'.cell? ⟨u1.heap.size, 1, none⟩ = some (.int .i64 (Lb : Int)) ∧ w'.cell? ⟨u1.heap.size, 2, none⟩ = some (.int .i64 (Hp : Int)) ∧ w'.cell? ⟨u1.heap.size, 3, none⟩ = some (.int .i64 (Pr : Int)) ∧ w'.cell? ⟨u1.heap.size, 4, none⟩ = some (.string (bsL s)) ∧ w'.cell? ⟨u1.heap.size, 5, none⟩ = some (.string (bsL d)) ∧ w'.cell? ⟨u1.heap.size, 6, none⟩ = some (.slice A' n cap')) (first | go_keep | exact KR3.out | exact KR2.out | exact KR1.out) (first
    | (go_simp; go_at_call 12; refine (ref_any _ _ ⟨Cl, Lb, Hp, Pr, s, d, C⟩ (HG.out _ K7.out.2.1) HN.out).mono ?_; rintro e v1 ⟨g1, rfl, fy, cc1⟩; have HY1 : Hid (HdAt v1 g1 ⟨Cl, Lb, Hp, Pr, s, d, C⟩) := fy; have HV1 : Hid (Keep (u6.alloc (.cells #[.int .i64 (Cl : Int), .int .i64 (Lb : Int), .int .i64 (Hp : Int), .int .i64 (Pr : Int), .string (bsL s), .string (bsL d), .slice A6 n k6] 25)).drew v1) := keep_of_below cc1; have KR1 : Hid (_) := KS2.out v1 HV1.out; have V1 : Hid (Below w.heap.size w v1) := bel_trans K7.out.1 ⟨cc1.os, cc1.tape, cc1.output, cc1.size, cc1.block⟩; clear fy cc1)
    | (go_simp; go_at_call 11; refine (equal_any _ _ _ ⟨Cl, Lb, Hp, Pr, s, d, C⟩ HY1.out (HY.out _ (K7.out.2.2.trans HV1.out)) hn2.out).mono ?_; rintro e v2 ⟨rfl, cc2⟩; have HV2 : Hid (Keep (u6.alloc (.cells #[.int .i64 (Cl : Int), .int .i64 (Lb : Int), .int .i64 (Hp : Int), .int .i64 (Pr : Int), .string (bsL s), .string (bsL d), .slice A6 n k6] 25)).drew v2) := HV1.out.trans (keep_of_below cc2); have KR2 : Hid (_) := KS2.out v2 HV2.out; have V2 : Hid (Below w.heap.size w v2) := bel_trans V1.out cc2; clear cc2)
    | (go_simp; go_at_call 8; refine (awake_any _).mono ?_; rintro e v3 ⟨rfl, cc3⟩; have KR3 : Hid (_) := KS2.out v3 (HV2.out.trans (keep_of_below cc3)); have V3 : Hid (Below w.heap.size w v3) := bel_trans V2.out cc3; clear cc3))
  all_goals go_wp2_with fail
  all_goals go_ret
  all_goals exact ⟨rfl, V3.out⟩

/-! ### The row -/
theorem laidOut : laidOutB Try.prog = true := by kernel_rfl
set_option maxRecDepth 100000 in
theorem lifted (os : Os) (started : os.Started) (H : Type) (enc : TypeId × Value → H) :
    ReturnsInHanded {} Try.checked os 4 .any (Rows.ipsixPutsSpec.pre6 enc Try.prog Try.f4 Rows.ipsixPutsRow.domain false) (Rows.ipsixPutsSpec.post enc Try.prog Try.f4 false true false false) := by
  refine returnsInHanded_of_change_sized (C := Try.checked) own started (by kernel_rfl) Try.func4
    (ChangeSpec.witness6 (enc := enc) (C := Try.checked) false ⟨#[], #[.agg #[.int .i64 0, .int .i64 0, .int .i64 0, .int .i64 0, .string ⟨#[]⟩, .string ⟨#[]⟩, .slice none 0 0], .string ⟨#[]⟩, .string ⟨#[]⟩], []⟩ 8 (by kernel_rfl) (by kernel_rfl) (by kernel_rfl) (by kernel_rfl)) ?_
  intro W base args ds gs before hval0 hW hcnd hsz _
  have hval : ∀ (j : Nat) t v, Try.f4.params[j]? = some t → args[j]? = some v → Value.okWide Try.prog W .any base t v := hval0
  have hW' := hW
  obtain ⟨p, q, hA0, hV, rfl, hfz, hnd⟩ := hW
  have hA : DataW.TrodAll enc Try.prog W 0 (fun _ => true) true Try.f4.params.toList args.toList ds p := hA0
  rw [Try.params4] at hA hval hsz
  obtain ⟨v0, vs0, d0, ds0, p0, q0, hargs, rfl, rfl, h0, r0⟩ := trodAll_cons hA
  obtain ⟨v1, vs1, d1, ds1, p1, q1, rfl, rfl, rfl, h1, r1⟩ := trodAll_cons r0
  obtain ⟨v2, vs2, d2, ds2, p2, q2, rfl, rfl, rfl, h2, r2⟩ := trodAll_cons r1
  obtain ⟨rfl, rfl, rfl⟩ := trodAll_nil r2
  obtain rfl : args = #[v0, v1, v2] := by cases args; simp_all
  obtain ⟨rfl, rfl⟩ := trodVars_none hV
  have k0 := h0
  have lt0 : ∀ x ∈ p0, x.block < W.heap.size := by obtain ⟨m, hm⟩ := k0; exact DataW.trod_lt m _ _ _ hm
  obtain ⟨F0, w0⟩ := open_hdr (hval 0 25 v0 rfl rfl) h0 (fun n hn => by have e := List.all_eq_true.1 hsz n (DataW.weights_mem_each (j := 0) (t := 25) (d := d0) rfl rfl n hn); simpa using e)
  obtain ⟨a1, rfl, rfl, rfl, w1⟩ := open_string Try.underlying9 (hval 1 9 v1 rfl rfl) h1
  obtain ⟨a2, rfl, rfl, rfl, w2⟩ := open_string Try.underlying9 (hval 2 9 v2 rfl rfl) h2
  clear hA0 hval0
  refine (walk v0 F0 a1 a2 W w0 w1 w2).mono fun e W' ⟨he, bel⟩ => ?_
  subst he
  exact ⟨_, rfl, _, _, _, [], _, [], hW', trodAll_mk1 (shut_bool Try.underlying4 _), (trodAll_cons_mk (Below.trod laidOut (by kernel_rfl) (of_decide_eq_true (by kernel_rfl)) k0 bel lt0) (trodAll_cons_mk (shut_string Try.underlying9 w1) (trodAll_cons_mk (shut_string Try.underlying9 w2) trodAll_mk0))), rfl, bel.frame _, fun h => by cases h⟩

theorem over : Rows.ipsixPutsRow.holds Try.pinned (OpenSpec.ofChange Rows.ipsixPutsSpec) :=
  OpenClaim.holds_of_wide 4 Try.f4 rfl rfl rfl rfl rfl rfl rfl ⟨rfl, rfl, rfl, rfl, rfl⟩ rfl rfl rfl rfl rfl (by kernel_rfl) Try.func4 (by kernel_rfl)
    (of_decide_eq_true (by kernel_rfl)) (by unfold Func.isWrapper; first | (rw [if_pos (by decide +kernel)]; kernel_rfl) | (rw [if_neg (by decide +kernel)]; exact ⟨rfl, rfl⟩))
    (fun os started H enc _ => lifted os started H enc)

theorem proved : Rows.IpsixPutsSaid := over
end Go.Proofs.Ytjbpbahaekbmlaa.ipsixPuts
namespace Go.Proofs.Ytjbpbahaekbmlaa
theorem ipsixPuts_holds : Rows.IpsixPutsSaid := ipsixPuts.proved
#print axioms ipsixPuts_holds
end Go.Proofs.Ytjbpbahaekbmlaa
