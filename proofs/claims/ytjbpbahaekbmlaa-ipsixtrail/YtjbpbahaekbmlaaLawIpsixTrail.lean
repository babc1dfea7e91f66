/-
  For any bytes, at most 4096, any behind them, at most 4096, and any number: what stands behind a packet's length turns nothing; a packet that ends ahead of it is refused. No condition.
-/
import Derived.Test.YtjbpbahaekbmlaaRows
import Derived.Test.YtjbpbahaekbmlaaIp6Awake
import Derived.Test.YtjbpbahaekbmlaaIp6Eq
import Derived.WalkKit
import Derived.ProofKit
import Derived.OpenShut
import Derived.ShutString
import Derived.ChangeOld
import Derived.ChangeMaps5
import Derived.Below
import Derived.Carry
namespace Go.Proofs.Ytjbpbahaekbmlaa.ipsixTrail
open Oc Ip6 Go.Deep
open Go.ChangeShapes Go.WideShapes Go.ChangeAt Go.RowKit Go.ChangeMaps
set_option linter.unusedVariables false

theorem own : ownKnob Try.prog.godebug = none := by kernel_rfl

set_option maxHeartbeats 6400000 in
theorem walk (s m' : ByteArray) (ct : Int) (w : World) (ws : s.size ≤ maxLen) (wm : m'.size ≤ maxLen) (wc : (Lit.int .i64 ct).wf = true) :
    Calls Try.prog 7 #[.string s, .string m', .int .i64 ct] w fun e w' => e = .returned (.bool true) ∧ Below w.heap.size w w' := by
  obtain ⟨l, rfl⟩ : ∃ l, s = bsL l := ⟨_, bsL_of s⟩
  obtain ⟨m, rfl⟩ : ∃ m, m' = bsL m := ⟨_, bsL_of m'⟩
  rw [bsL_size] at ws wm
  obtain ⟨ct0, ct1⟩ := bounds_i64 wc
  clear wc
  by_cases h : 4096 < l.length
  · go_enter Try.func7, Try.ntmps7
    go_wp2_with fail
    refine (awake_any _).mono ?_
    rintro e u9 ⟨rfl, b9⟩
    go_wp2_with fail
    go_ret
    exact ⟨rfl, b9⟩
  by_cases h2 : 4096 < m.length
  · go_enter Try.func7, Try.ntmps7
    go_wp2_with fail
    refine (awake_any _).mono ?_
    rintro e u9 ⟨rfl, b9⟩
    go_wp2_with fail
    go_ret
    exact ⟨rfl, b9⟩
  have lm : (l ++ m).length ≤ 1152921504606846976 := by rw [List.length_append]; omega
  by_cases he : takeE l = 0
  rotate_left
  · have HE : Hid (takeE l ≠ 0) := he
    clear he
    go_enter Try.func7, Try.ntmps7
    go_wp2_with fail
    refine (ptake_any _ (l) (by omega)).mono ?_
    rintro e u1 ⟨c1, b1, h1, p1, s1, d1, C1, A1, n1, k1, r1, E1, rfl, hq, hC, bb⟩
    have HQ1 : Hid (hdOf (l) = ⟨c1, b1, h1, p1, s1, d1, C1⟩ ∧ bodyOf (l) = r1 ∧ takeE (l) = E1 ∧ C1.length = n1) := hq
    have HX1 : Hid (∀ w' : World, Keep u1 w' → HdAt w' (.agg #[.int .i64 c1, .int .i64 b1, .int .i64 h1, .int .i64 p1, .string (bsL s1), .string (bsL d1), .slice A1 n1 k1]) ⟨c1, b1, h1, p1, s1, d1, C1⟩) := fun w' k => ⟨_, rfl, by have e := hq.2.2.2; subst e; exact hC.keep k⟩
    have BU1 : Hid (Below w.heap.size w u1) := bb
    clear hq hC bb
    have q1 : ((E1 : Int) != 0) = true := by have e := HQ1.out.2.2.1; have e2 := HE.out; rw [e] at e2; simp; omega
    have BB1 : Hid (Below w.heap.size w (u1.alloc (.cells #[.int .i64 c1, .int .i64 b1, .int .i64 h1, .int .i64 p1, .string (bsL s1), .string (bsL d1), .slice A1 n1 k1] 25))) := BU1.out.alloc BU1.out.size _
    have SB1 : Hid (Blk (u1.alloc (.cells #[.int .i64 c1, .int .i64 b1, .int .i64 h1, .int .i64 p1, .string (bsL s1), .string (bsL d1), .slice A1 n1 k1] 25)) u1.heap.size 25 #[.int .i64 c1, .int .i64 b1, .int .i64 h1, .int .i64 p1, .string (bsL s1), .string (bsL d1), .slice A1 n1 k1]) := Blk.new _ _ _
    go_wp2_with fail
    refine (ptake_any _ (l ++ m) lm).mono ?_
    rintro e u2 ⟨c2, b2, h2, p2, s2, d2, C2, A2, n2, k2, r2, E2, rfl, hq, hC, bb⟩
    have HQ2 : Hid (hdOf (l ++ m) = ⟨c2, b2, h2, p2, s2, d2, C2⟩ ∧ bodyOf (l ++ m) = r2 ∧ takeE (l ++ m) = E2 ∧ C2.length = n2) := hq
    have HX2 : Hid (∀ w' : World, Keep u2 w' → HdAt w' (.agg #[.int .i64 c2, .int .i64 b2, .int .i64 h2, .int .i64 p2, .string (bsL s2), .string (bsL d2), .slice A2 n2 k2]) ⟨c2, b2, h2, p2, s2, d2, C2⟩) := fun w' k => ⟨_, rfl, by have e := hq.2.2.2; subst e; exact hC.keep k⟩
    have BU2 : Hid (Below w.heap.size w u2) := bel_trans BB1.out bb
    clear hq hC bb
    have BB2 : Hid (Below w.heap.size w (u2.alloc (.cells #[.int .i64 c2, .int .i64 b2, .int .i64 h2, .int .i64 p2, .string (bsL s2), .string (bsL d2), .slice A2 n2 k2] 25))) := BU2.out.alloc BU2.out.size _
    go_wp2_with fail
    refine (awake_any _).mono ?_
    rintro e u9 ⟨rfl, b9⟩
    go_wp2_with fail
    go_ret
    exact ⟨rfl, bel_trans BB2.out b9⟩
  have HO : Hid (RightP (hdOf l) ∧ putL (hdOf l) (bodyOf l) = l.take (40 + lenL l) ∧ (chainL (hdOf l).ch (hdOf l).pro).length + (bodyOf l).length = lenL l ∧ 40 + lenL l ≤ l.length ∧ lenL l ≤ 65535) := right_of he
  have HT : Hid (takeE (l ++ m) = 0 ∧ hdOf (l ++ m) = hdOf l ∧ bodyOf (l ++ m) = bodyOf l) := trail m he
  have CA : Hid (∀ c, c < 40 + lenL l → takeE (l.take c) = if c < 40 then 2 else 13) := fun c hc => cut_at he c hc
  have HE : Hid (takeE l = 0) := he
  clear he
  obtain ⟨Nt, hNt⟩ : ∃ N, N = 40 + lenL l := ⟨_, rfl⟩
  have nt1 : Nt ≤ l.length := by have := HO.out.2.2.2.1; omega
  have nt2 : 40 ≤ Nt := by omega
  have HNt : Hid (Nt = 40 + lenL l) := hNt
  clear hNt
  by_cases k0 : ct < 0
  · go_enter Try.func7, Try.ntmps7
    go_wp2_with fail
    refine (ptake_any _ (l) (by omega)).mono ?_
    rintro e u1 ⟨c1, b1, h1, p1, s1, d1, C1, A1, n1, k1, r1, E1, rfl, hq, hC, bb⟩
    have HQ1 : Hid (hdOf (l) = ⟨c1, b1, h1, p1, s1, d1, C1⟩ ∧ bodyOf (l) = r1 ∧ takeE (l) = E1 ∧ C1.length = n1) := hq
    have HX1 : Hid (∀ w' : World, Keep u1 w' → HdAt w' (.agg #[.int .i64 c1, .int .i64 b1, .int .i64 h1, .int .i64 p1, .string (bsL s1), .string (bsL d1), .slice A1 n1 k1]) ⟨c1, b1, h1, p1, s1, d1, C1⟩) := fun w' k => ⟨_, rfl, by have e := hq.2.2.2; subst e; exact hC.keep k⟩
    have BU1 : Hid (Below w.heap.size w u1) := bb
    clear hq hC bb
    obtain rfl := HQ1.out.2.2.1.symm.trans HE.out
    have BB1 : Hid (Below w.heap.size w (u1.alloc (.cells #[.int .i64 c1, .int .i64 b1, .int .i64 h1, .int .i64 p1, .string (bsL s1), .string (bsL d1), .slice A1 n1 k1] 25))) := BU1.out.alloc BU1.out.size _
    have SB1 : Hid (Blk (u1.alloc (.cells #[.int .i64 c1, .int .i64 b1, .int .i64 h1, .int .i64 p1, .string (bsL s1), .string (bsL d1), .slice A1 n1 k1] 25)) u1.heap.size 25 #[.int .i64 c1, .int .i64 b1, .int .i64 h1, .int .i64 p1, .string (bsL s1), .string (bsL d1), .slice A1 n1 k1]) := Blk.new _ _ _
    go_wp2_with fail
    refine (ptake_any _ (l ++ m) lm).mono ?_
    rintro e u2 ⟨c2, b2, h2, p2, s2, d2, C2, A2, n2, k2, r2, E2, rfl, hq, hC, bb⟩
    have HQ2 : Hid (hdOf (l ++ m) = ⟨c2, b2, h2, p2, s2, d2, C2⟩ ∧ bodyOf (l ++ m) = r2 ∧ takeE (l ++ m) = E2 ∧ C2.length = n2) := hq
    have HX2 : Hid (∀ w' : World, Keep u2 w' → HdAt w' (.agg #[.int .i64 c2, .int .i64 b2, .int .i64 h2, .int .i64 p2, .string (bsL s2), .string (bsL d2), .slice A2 n2 k2]) ⟨c2, b2, h2, p2, s2, d2, C2⟩) := fun w' k => ⟨_, rfl, by have e := hq.2.2.2; subst e; exact hC.keep k⟩
    have BU2 : Hid (Below w.heap.size w u2) := bel_trans BB1.out bb
    have SC1 : Hid (Blk u2 u1.heap.size 25 #[.int .i64 c1, .int .i64 b1, .int .i64 h1, .int .i64 p1, .string (bsL s1), .string (bsL d1), .slice A1 n1 k1]) := SB1.out.since bb
    have KP2 : Hid (Keep u1 u2) := (keep_of_below (bel_alloc _ _)).trans (keep_of_below bb)
    clear hq hC bb
    obtain ⟨rfl, rfl, rfl, rfl, rfl, rfl, rfl⟩ := Hd.mk.inj (HQ1.out.1.symm.trans (HT.out.2.1.symm.trans HQ2.out.1))
    obtain rfl := HQ1.out.2.1.symm.trans (HT.out.2.2.symm.trans HQ2.out.2.1)
    obtain rfl := HQ2.out.2.2.1.symm.trans HT.out.1
    obtain rfl := HQ1.out.2.2.2.symm.trans HQ2.out.2.2.2
    have HO2 := HO.out
    rw [HQ1.out.1, HQ1.out.2.1] at HO2
    have HR : Hid (RightP ⟨c1, b1, h1, p1, s1, d1, C1⟩) := HO2.1
    obtain ⟨r1, r2, r3, r4, _⟩ := HR.out
    simp only at r1 r2 r3 r4
    obtain ⟨Cl, rfl⟩ : ∃ N : Nat, c1 = N := ⟨c1.toNat, by omega⟩
    obtain ⟨Lb, rfl⟩ : ∃ N : Nat, b1 = N := ⟨b1.toNat, by omega⟩
    obtain ⟨Hp, rfl⟩ : ∃ N : Nat, h1 = N := ⟨h1.toNat, by omega⟩
    obtain ⟨Pr, rfl⟩ : ∃ N : Nat, p1 = N := ⟨p1.toNat, by omega⟩
    clear r1 r2 r3 r4
    have PQ : Hid (putL ⟨Cl, Lb, Hp, Pr, s1, d1, C1⟩ r1 = l.take Nt ∧ (chainL C1 Pr).length + r1.length ≤ 65535) := ⟨by rw [HNt.out]; exact HO2.2.1, by have h3 := HO2.2.2.1; have h5 := HO2.2.2.2.2; simp only at h3; omega⟩
    have r1l : r1.length ≤ 1152921504606846976 := by have := PQ.out.2; omega
    have C8 : Hid (C1.length ≤ 8) := HR.out.2.2.2.2.2.2.2.1
    have hn1 : Hid (C1.length * 24 ≤ 140737488355328) := by show _ ≤ _; have := C8.out; omega
    have hn2 : Hid (C1.length ≤ 9223372036854775807) := by show _ ≤ _; have := C8.out; omega
    have PT : Hid (∀ u : World, Keep u1 u → Calls Try.prog 16 #[.agg #[.int .i64 (Cl : Int), .int .i64 (Lb : Int), .int .i64 (Hp : Int), .int .i64 (Pr : Int), .string (bsL s1), .string (bsL d1), .slice A1 n1 k1], .string (bsL r1)] u (Wrote u (l.take Nt) 0)) := fun u kp => by
      rw [← PQ.out.1]
      exact (pput_two u Cl Lb Hp Pr s1 d1 r1 C1 A1 n1 k1 (HX1.out u kp) HR.out r1l).mono fun e w' h => h.1 PQ.out.2
    clear HO2
    have pl : u1.heap.size < u2.heap.size := SC1.out.lt
    have TL : (l.take Nt).length = Nt := by simp; omega
    generalize l.take Nt = Tl at PT TL
    have x0 : u2.cell? ⟨u1.heap.size, 0, none⟩ = some (.int .i64 (Cl : Int)) := SC1.out.cell 0
    have x1 : u2.cell? ⟨u1.heap.size, 1, none⟩ = some (.int .i64 (Lb : Int)) := SC1.out.cell 1
    have x2 : u2.cell? ⟨u1.heap.size, 2, none⟩ = some (.int .i64 (Hp : Int)) := SC1.out.cell 2
    have x3 : u2.cell? ⟨u1.heap.size, 3, none⟩ = some (.int .i64 (Pr : Int)) := SC1.out.cell 3
    have x4 : u2.cell? ⟨u1.heap.size, 4, none⟩ = some (.string (bsL s1)) := SC1.out.cell 4
    have x5 : u2.cell? ⟨u1.heap.size, 5, none⟩ = some (.string (bsL d1)) := SC1.out.cell 5
    have x6 : u2.cell? ⟨u1.heap.size, 6, none⟩ = some (.slice A1 n1 k1) := SC1.out.cell 6
    have BB2 : Hid (Below w.heap.size w (u2.alloc (.cells #[.int .i64 (Cl : Int), .int .i64 (Lb : Int), .int .i64 (Hp : Int), .int .i64 (Pr : Int), .string (bsL s1), .string (bsL d1), .slice A2 n1 k2] 25))) := BU2.out.alloc BU2.out.size _
    have SB2 : Hid (Blk (u2.alloc (.cells #[.int .i64 (Cl : Int), .int .i64 (Lb : Int), .int .i64 (Hp : Int), .int .i64 (Pr : Int), .string (bsL s1), .string (bsL d1), .slice A2 n1 k2] 25)) u2.heap.size 25 #[.int .i64 (Cl : Int), .int .i64 (Lb : Int), .int .i64 (Hp : Int), .int .i64 (Pr : Int), .string (bsL s1), .string (bsL d1), .slice A2 n1 k2]) := Blk.new _ _ _
    have SD1 : Hid (Blk (u2.alloc (.cells #[.int .i64 (Cl : Int), .int .i64 (Lb : Int), .int .i64 (Hp : Int), .int .i64 (Pr : Int), .string (bsL s1), .string (bsL d1), .slice A2 n1 k2] 25)) u1.heap.size 25 #[.int .i64 (Cl : Int), .int .i64 (Lb : Int), .int .i64 (Hp : Int), .int .i64 (Pr : Int), .string (bsL s1), .string (bsL d1), .slice A1 n1 k1]) := SC1.out.alloc _
    have KP3 : Hid (Keep u1 (u2.alloc (.cells #[.int .i64 (Cl : Int), .int .i64 (Lb : Int), .int .i64 (Hp : Int), .int .i64 (Pr : Int), .string (bsL s1), .string (bsL d1), .slice A2 n1 k2] 25)) ∧ Keep u2 (u2.alloc (.cells #[.int .i64 (Cl : Int), .int .i64 (Lb : Int), .int .i64 (Hp : Int), .int .i64 (Pr : Int), .string (bsL s1), .string (bsL d1), .slice A2 n1 k2] 25))) := ⟨KP2.out.trans (keep_of_below (bel_alloc _ _)), keep_of_below (bel_alloc _ _)⟩
    go_wp2_with fail
    refine (PT.out _ KP3.out.1).mono ?_
    rintro e u3 ⟨rfl, b3⟩
    have BU3 : Hid (Below w.heap.size w u3) := bel_trans BB2.out b3
    have SE1 : Hid (Blk u3 u1.heap.size 25 #[.int .i64 (Cl : Int), .int .i64 (Lb : Int), .int .i64 (Hp : Int), .int .i64 (Pr : Int), .string (bsL s1), .string (bsL d1), .slice A1 n1 k1]) := SD1.out.since b3
    have SE2 : Hid (Blk u3 u2.heap.size 25 #[.int .i64 (Cl : Int), .int .i64 (Lb : Int), .int .i64 (Hp : Int), .int .i64 (Pr : Int), .string (bsL s1), .string (bsL d1), .slice A2 n1 k2]) := SB2.out.since b3
    have K6 : Hid (Keep u1 u3.drew ∧ Keep u2 u3.drew) := ⟨keep_heap (KP3.out.1.trans (keep_of_below b3)) rfl, keep_heap (KP3.out.2.trans (keep_of_below b3)) rfl⟩
    clear b3 x0 x1 x2 x3 x4 x5 x6
    have x0 : u3.cell? ⟨u1.heap.size, 0, none⟩ = some (.int .i64 (Cl : Int)) := SE1.out.cell 0
    have x1 : u3.cell? ⟨u1.heap.size, 1, none⟩ = some (.int .i64 (Lb : Int)) := SE1.out.cell 1
    have x2 : u3.cell? ⟨u1.heap.size, 2, none⟩ = some (.int .i64 (Hp : Int)) := SE1.out.cell 2
    have x3 : u3.cell? ⟨u1.heap.size, 3, none⟩ = some (.int .i64 (Pr : Int)) := SE1.out.cell 3
    have x4 : u3.cell? ⟨u1.heap.size, 4, none⟩ = some (.string (bsL s1)) := SE1.out.cell 4
    have x5 : u3.cell? ⟨u1.heap.size, 5, none⟩ = some (.string (bsL d1)) := SE1.out.cell 5
    have x6 : u3.cell? ⟨u1.heap.size, 6, none⟩ = some (.slice A1 n1 k1) := SE1.out.cell 6
    have y0 : u3.cell? ⟨u2.heap.size, 0, none⟩ = some (.int .i64 (Cl : Int)) := SE2.out.cell 0
    have y1 : u3.cell? ⟨u2.heap.size, 1, none⟩ = some (.int .i64 (Lb : Int)) := SE2.out.cell 1
    have y2 : u3.cell? ⟨u2.heap.size, 2, none⟩ = some (.int .i64 (Hp : Int)) := SE2.out.cell 2
    have y3 : u3.cell? ⟨u2.heap.size, 3, none⟩ = some (.int .i64 (Pr : Int)) := SE2.out.cell 3
    have y4 : u3.cell? ⟨u2.heap.size, 4, none⟩ = some (.string (bsL s1)) := SE2.out.cell 4
    have y5 : u3.cell? ⟨u2.heap.size, 5, none⟩ = some (.string (bsL d1)) := SE2.out.cell 5
    have y6 : u3.cell? ⟨u2.heap.size, 6, none⟩ = some (.slice A2 n1 k2) := SE2.out.cell 6
    have KS0 : Hid (∀ q : World, Keep u3.drew q → (q.cell? ⟨u1.heap.size, 0, none⟩ = some (.int .i64 (Cl : Int)) ∧ q.cell? ⟨u1.heap.size, 1, none⟩ = some (.int .i64 (Lb : Int)) ∧ q.cell? ⟨u1.heap.size, 2, none⟩ = some (.int .i64 (Hp : Int)) ∧ q.cell? ⟨u1.heap.size, 3, none⟩ = some (.int .i64 (Pr : Int)) ∧ q.cell? ⟨u1.heap.size, 4, none⟩ = some (.string (bsL s1)) ∧ q.cell? ⟨u1.heap.size, 5, none⟩ = some (.string (bsL d1)) ∧ q.cell? ⟨u1.heap.size, 6, none⟩ = some (.slice A1 n1 k1) ∧ q.cell? ⟨u2.heap.size, 0, none⟩ = some (.int .i64 (Cl : Int)) ∧ q.cell? ⟨u2.heap.size, 1, none⟩ = some (.int .i64 (Lb : Int)) ∧ q.cell? ⟨u2.heap.size, 2, none⟩ = some (.int .i64 (Hp : Int)) ∧ q.cell? ⟨u2.heap.size, 3, none⟩ = some (.int .i64 (Pr : Int)) ∧ q.cell? ⟨u2.heap.size, 4, none⟩ = some (.string (bsL s1)) ∧ q.cell? ⟨u2.heap.size, 5, none⟩ = some (.string (bsL d1)) ∧ q.cell? ⟨u2.heap.size, 6, none⟩ = some (.slice A2 n1 k2))) := fun q kq => by
      have k1 : Keep u3 q := fun a v e => kq a v e
      exact ⟨k1 _ _ x0, k1 _ _ x1, k1 _ _ x2, k1 _ _ x3, k1 _ _ x4, k1 _ _ x5, k1 _ _ x6, k1 _ _ y0, k1 _ _ y1, k1 _ _ y2, k1 _ _ y3, k1 _ _ y4, k1 _ _ y5, k1 _ _ y6⟩
    go_wp2_with fail
    go_region_held3 (fun w' => w'.cell? ⟨u1.heap.size, 0, none⟩ = some (.int .i64 (Cl : Int)) ∧ w'.cell? ⟨u1.heap.size, 1, none⟩ = some (.int .i64 (Lb : Int)) ∧ w'.cell? ⟨u1.heap.size, 2, none⟩ = some (.int .i64 (Hp : Int)) ∧ w'.cell? ⟨u1.heap.size, 3, none⟩ = some (.int .i64 (Pr : Int)) ∧ w'.cell? ⟨u1.heap.size, 4, none⟩ = some (.string (bsL s1)) ∧ w'.cell? ⟨u1.heap.size, 5, none⟩ = some (.string (bsL d1)) ∧ w'.cell? ⟨u1.heap.size, 6, none⟩ = some (.slice A1 n1 k1) ∧ w'.cell? ⟨u2.heap.size, 0, none⟩ = some (.int .i64 (Cl : Int)) ∧ w'.cell? ⟨u2.heap.size, 1, none⟩ = some (.int .i64 (Lb : Int)) ∧ w'.cell? ⟨u2.heap.size, 2, none⟩ = some (.int .i64 (Hp : Int)) ∧ w'.cell? ⟨u2.heap.size, 3, none⟩ = some (.int .i64 (Pr : Int)) ∧ w'.cell? ⟨u2.heap.size, 4, none⟩ = some (.string (bsL s1)) ∧ w'.cell? ⟨u2.heap.size, 5, none⟩ = some (.string (bsL d1)) ∧ w'.cell? ⟨u2.heap.size, 6, none⟩ = some (.slice A2 n1 k2)) (first | go_keep | exact KQ3.out | exact KQ2.out | exact KQ1.out) (first
      | (go_simp; have fl := HY1; clear fl; go_at_call 12; refine (ref_any _ _ ⟨Cl, Lb, Hp, Pr, s1, d1, C1⟩ (HX1.out _ (K6.out.1.trans HW1.out)) hn1.out).mono ?_; rintro e q2 ⟨y2, rfl, fy, c2⟩; have HY2 : Hid (HdAt q2 y1 ⟨Cl, Lb, Hp, Pr, s1, d1, C1⟩ ∧ HdAt q2 y2 ⟨Cl, Lb, Hp, Pr, s1, d1, C1⟩) := ⟨HY1.out.keep (keep_of_below c2), fy⟩; have HW2 : Hid (Keep u3.drew q2) := HW1.out.trans (keep_of_below c2); have KQ2 : Hid (_) := KS0.out q2 HW2.out; have W2 : Hid (Below w.heap.size w q2) := bel_trans W1.out c2; clear fy c2)
      | (go_simp; go_at_call 12; refine (ref_any _ _ ⟨Cl, Lb, Hp, Pr, s1, d1, C1⟩ (HX2.out _ K6.out.2) hn1.out).mono ?_; rintro e q1 ⟨y1, rfl, fy, c1⟩; have HY1 : Hid (HdAt q1 y1 ⟨Cl, Lb, Hp, Pr, s1, d1, C1⟩) := fy; have HW1 : Hid (Keep u3.drew q1) := keep_of_below c1; have KQ1 : Hid (_) := KS0.out q1 HW1.out; have W1 : Hid (Below w.heap.size w q1) := bel_trans BU3.out ⟨c1.os, c1.tape, c1.output, c1.size, c1.block⟩; clear fy c1)
      | (go_simp; go_at_call 11; refine (equal_any _ _ _ ⟨Cl, Lb, Hp, Pr, s1, d1, C1⟩ HY2.out.1 HY2.out.2 hn2.out).mono ?_; rintro e q3 ⟨rfl, c3⟩; have HW3 : Hid (Keep u3.drew q3) := HW2.out.trans (keep_of_below c3); have KQ3 : Hid (_) := KS0.out q3 HW3.out; have W3 : Hid (Below w.heap.size w q3) := bel_trans W2.out c3; clear c3))
    all_goals go_wp2_with fail
    all_goals refine (awake_any _).mono ?_
    all_goals rintro e u9 ⟨rfl, b9⟩
    all_goals go_wp2_with fail
    all_goals go_ret
    all_goals exact ⟨rfl, bel_trans W3.out b9⟩
  obtain ⟨c, rfl⟩ : ∃ c : Nat, ct = c := ⟨ct.toNat, by omega⟩
  by_cases k1 : (Nt : Int) ≤ (c : Int)
  · go_enter Try.func7, Try.ntmps7
    go_wp2_with fail
    refine (ptake_any _ (l) (by omega)).mono ?_
    rintro e u1 ⟨c1, b1, h1, p1, s1, d1, C1, A1, n1, k1, r1, E1, rfl, hq, hC, bb⟩
    have HQ1 : Hid (hdOf (l) = ⟨c1, b1, h1, p1, s1, d1, C1⟩ ∧ bodyOf (l) = r1 ∧ takeE (l) = E1 ∧ C1.length = n1) := hq
    have HX1 : Hid (∀ w' : World, Keep u1 w' → HdAt w' (.agg #[.int .i64 c1, .int .i64 b1, .int .i64 h1, .int .i64 p1, .string (bsL s1), .string (bsL d1), .slice A1 n1 k1]) ⟨c1, b1, h1, p1, s1, d1, C1⟩) := fun w' k => ⟨_, rfl, by have e := hq.2.2.2; subst e; exact hC.keep k⟩
    have BU1 : Hid (Below w.heap.size w u1) := bb
    clear hq hC bb
    obtain rfl := HQ1.out.2.2.1.symm.trans HE.out
    have BB1 : Hid (Below w.heap.size w (u1.alloc (.cells #[.int .i64 c1, .int .i64 b1, .int .i64 h1, .int .i64 p1, .string (bsL s1), .string (bsL d1), .slice A1 n1 k1] 25))) := BU1.out.alloc BU1.out.size _
    have SB1 : Hid (Blk (u1.alloc (.cells #[.int .i64 c1, .int .i64 b1, .int .i64 h1, .int .i64 p1, .string (bsL s1), .string (bsL d1), .slice A1 n1 k1] 25)) u1.heap.size 25 #[.int .i64 c1, .int .i64 b1, .int .i64 h1, .int .i64 p1, .string (bsL s1), .string (bsL d1), .slice A1 n1 k1]) := Blk.new _ _ _
    go_wp2_with fail
    refine (ptake_any _ (l ++ m) lm).mono ?_
    rintro e u2 ⟨c2, b2, h2, p2, s2, d2, C2, A2, n2, k2, r2, E2, rfl, hq, hC, bb⟩
    have HQ2 : Hid (hdOf (l ++ m) = ⟨c2, b2, h2, p2, s2, d2, C2⟩ ∧ bodyOf (l ++ m) = r2 ∧ takeE (l ++ m) = E2 ∧ C2.length = n2) := hq
    have HX2 : Hid (∀ w' : World, Keep u2 w' → HdAt w' (.agg #[.int .i64 c2, .int .i64 b2, .int .i64 h2, .int .i64 p2, .string (bsL s2), .string (bsL d2), .slice A2 n2 k2]) ⟨c2, b2, h2, p2, s2, d2, C2⟩) := fun w' k => ⟨_, rfl, by have e := hq.2.2.2; subst e; exact hC.keep k⟩
    have BU2 : Hid (Below w.heap.size w u2) := bel_trans BB1.out bb
    have SC1 : Hid (Blk u2 u1.heap.size 25 #[.int .i64 c1, .int .i64 b1, .int .i64 h1, .int .i64 p1, .string (bsL s1), .string (bsL d1), .slice A1 n1 k1]) := SB1.out.since bb
    have KP2 : Hid (Keep u1 u2) := (keep_of_below (bel_alloc _ _)).trans (keep_of_below bb)
    clear hq hC bb
    obtain ⟨rfl, rfl, rfl, rfl, rfl, rfl, rfl⟩ := Hd.mk.inj (HQ1.out.1.symm.trans (HT.out.2.1.symm.trans HQ2.out.1))
    obtain rfl := HQ1.out.2.1.symm.trans (HT.out.2.2.symm.trans HQ2.out.2.1)
    obtain rfl := HQ2.out.2.2.1.symm.trans HT.out.1
    obtain rfl := HQ1.out.2.2.2.symm.trans HQ2.out.2.2.2
    have HO2 := HO.out
    rw [HQ1.out.1, HQ1.out.2.1] at HO2
    have HR : Hid (RightP ⟨c1, b1, h1, p1, s1, d1, C1⟩) := HO2.1
    obtain ⟨r1, r2, r3, r4, _⟩ := HR.out
    simp only at r1 r2 r3 r4
    obtain ⟨Cl, rfl⟩ : ∃ N : Nat, c1 = N := ⟨c1.toNat, by omega⟩
    obtain ⟨Lb, rfl⟩ : ∃ N : Nat, b1 = N := ⟨b1.toNat, by omega⟩
    obtain ⟨Hp, rfl⟩ : ∃ N : Nat, h1 = N := ⟨h1.toNat, by omega⟩
    obtain ⟨Pr, rfl⟩ : ∃ N : Nat, p1 = N := ⟨p1.toNat, by omega⟩
    clear r1 r2 r3 r4
    have PQ : Hid (putL ⟨Cl, Lb, Hp, Pr, s1, d1, C1⟩ r1 = l.take Nt ∧ (chainL C1 Pr).length + r1.length ≤ 65535) := ⟨by rw [HNt.out]; exact HO2.2.1, by have h3 := HO2.2.2.1; have h5 := HO2.2.2.2.2; simp only at h3; omega⟩
    have r1l : r1.length ≤ 1152921504606846976 := by have := PQ.out.2; omega
    have C8 : Hid (C1.length ≤ 8) := HR.out.2.2.2.2.2.2.2.1
    have hn1 : Hid (C1.length * 24 ≤ 140737488355328) := by show _ ≤ _; have := C8.out; omega
    have hn2 : Hid (C1.length ≤ 9223372036854775807) := by show _ ≤ _; have := C8.out; omega
    have PT : Hid (∀ u : World, Keep u1 u → Calls Try.prog 16 #[.agg #[.int .i64 (Cl : Int), .int .i64 (Lb : Int), .int .i64 (Hp : Int), .int .i64 (Pr : Int), .string (bsL s1), .string (bsL d1), .slice A1 n1 k1], .string (bsL r1)] u (Wrote u (l.take Nt) 0)) := fun u kp => by
      rw [← PQ.out.1]
      exact (pput_two u Cl Lb Hp Pr s1 d1 r1 C1 A1 n1 k1 (HX1.out u kp) HR.out r1l).mono fun e w' h => h.1 PQ.out.2
    clear HO2
    have pl : u1.heap.size < u2.heap.size := SC1.out.lt
    have TL : (l.take Nt).length = Nt := by simp; omega
    generalize l.take Nt = Tl at PT TL
    have x0 : u2.cell? ⟨u1.heap.size, 0, none⟩ = some (.int .i64 (Cl : Int)) := SC1.out.cell 0
    have x1 : u2.cell? ⟨u1.heap.size, 1, none⟩ = some (.int .i64 (Lb : Int)) := SC1.out.cell 1
    have x2 : u2.cell? ⟨u1.heap.size, 2, none⟩ = some (.int .i64 (Hp : Int)) := SC1.out.cell 2
    have x3 : u2.cell? ⟨u1.heap.size, 3, none⟩ = some (.int .i64 (Pr : Int)) := SC1.out.cell 3
    have x4 : u2.cell? ⟨u1.heap.size, 4, none⟩ = some (.string (bsL s1)) := SC1.out.cell 4
    have x5 : u2.cell? ⟨u1.heap.size, 5, none⟩ = some (.string (bsL d1)) := SC1.out.cell 5
    have x6 : u2.cell? ⟨u1.heap.size, 6, none⟩ = some (.slice A1 n1 k1) := SC1.out.cell 6
    have BB2 : Hid (Below w.heap.size w (u2.alloc (.cells #[.int .i64 (Cl : Int), .int .i64 (Lb : Int), .int .i64 (Hp : Int), .int .i64 (Pr : Int), .string (bsL s1), .string (bsL d1), .slice A2 n1 k2] 25))) := BU2.out.alloc BU2.out.size _
    have SB2 : Hid (Blk (u2.alloc (.cells #[.int .i64 (Cl : Int), .int .i64 (Lb : Int), .int .i64 (Hp : Int), .int .i64 (Pr : Int), .string (bsL s1), .string (bsL d1), .slice A2 n1 k2] 25)) u2.heap.size 25 #[.int .i64 (Cl : Int), .int .i64 (Lb : Int), .int .i64 (Hp : Int), .int .i64 (Pr : Int), .string (bsL s1), .string (bsL d1), .slice A2 n1 k2]) := Blk.new _ _ _
    have SD1 : Hid (Blk (u2.alloc (.cells #[.int .i64 (Cl : Int), .int .i64 (Lb : Int), .int .i64 (Hp : Int), .int .i64 (Pr : Int), .string (bsL s1), .string (bsL d1), .slice A2 n1 k2] 25)) u1.heap.size 25 #[.int .i64 (Cl : Int), .int .i64 (Lb : Int), .int .i64 (Hp : Int), .int .i64 (Pr : Int), .string (bsL s1), .string (bsL d1), .slice A1 n1 k1]) := SC1.out.alloc _
    have KP3 : Hid (Keep u1 (u2.alloc (.cells #[.int .i64 (Cl : Int), .int .i64 (Lb : Int), .int .i64 (Hp : Int), .int .i64 (Pr : Int), .string (bsL s1), .string (bsL d1), .slice A2 n1 k2] 25)) ∧ Keep u2 (u2.alloc (.cells #[.int .i64 (Cl : Int), .int .i64 (Lb : Int), .int .i64 (Hp : Int), .int .i64 (Pr : Int), .string (bsL s1), .string (bsL d1), .slice A2 n1 k2] 25))) := ⟨KP2.out.trans (keep_of_below (bel_alloc _ _)), keep_of_below (bel_alloc _ _)⟩
    go_wp2_with fail
    refine (PT.out _ KP3.out.1).mono ?_
    rintro e u3 ⟨rfl, b3⟩
    have BU3 : Hid (Below w.heap.size w u3) := bel_trans BB2.out b3
    have SE1 : Hid (Blk u3 u1.heap.size 25 #[.int .i64 (Cl : Int), .int .i64 (Lb : Int), .int .i64 (Hp : Int), .int .i64 (Pr : Int), .string (bsL s1), .string (bsL d1), .slice A1 n1 k1]) := SD1.out.since b3
    have SE2 : Hid (Blk u3 u2.heap.size 25 #[.int .i64 (Cl : Int), .int .i64 (Lb : Int), .int .i64 (Hp : Int), .int .i64 (Pr : Int), .string (bsL s1), .string (bsL d1), .slice A2 n1 k2]) := SB2.out.since b3
    have K6 : Hid (Keep u1 u3.drew ∧ Keep u2 u3.drew) := ⟨keep_heap (KP3.out.1.trans (keep_of_below b3)) rfl, keep_heap (KP3.out.2.trans (keep_of_below b3)) rfl⟩
    clear b3 x0 x1 x2 x3 x4 x5 x6
    have x0 : u3.cell? ⟨u1.heap.size, 0, none⟩ = some (.int .i64 (Cl : Int)) := SE1.out.cell 0
    have x1 : u3.cell? ⟨u1.heap.size, 1, none⟩ = some (.int .i64 (Lb : Int)) := SE1.out.cell 1
    have x2 : u3.cell? ⟨u1.heap.size, 2, none⟩ = some (.int .i64 (Hp : Int)) := SE1.out.cell 2
    have x3 : u3.cell? ⟨u1.heap.size, 3, none⟩ = some (.int .i64 (Pr : Int)) := SE1.out.cell 3
    have x4 : u3.cell? ⟨u1.heap.size, 4, none⟩ = some (.string (bsL s1)) := SE1.out.cell 4
    have x5 : u3.cell? ⟨u1.heap.size, 5, none⟩ = some (.string (bsL d1)) := SE1.out.cell 5
    have x6 : u3.cell? ⟨u1.heap.size, 6, none⟩ = some (.slice A1 n1 k1) := SE1.out.cell 6
    have y0 : u3.cell? ⟨u2.heap.size, 0, none⟩ = some (.int .i64 (Cl : Int)) := SE2.out.cell 0
    have y1 : u3.cell? ⟨u2.heap.size, 1, none⟩ = some (.int .i64 (Lb : Int)) := SE2.out.cell 1
    have y2 : u3.cell? ⟨u2.heap.size, 2, none⟩ = some (.int .i64 (Hp : Int)) := SE2.out.cell 2
    have y3 : u3.cell? ⟨u2.heap.size, 3, none⟩ = some (.int .i64 (Pr : Int)) := SE2.out.cell 3
    have y4 : u3.cell? ⟨u2.heap.size, 4, none⟩ = some (.string (bsL s1)) := SE2.out.cell 4
    have y5 : u3.cell? ⟨u2.heap.size, 5, none⟩ = some (.string (bsL d1)) := SE2.out.cell 5
    have y6 : u3.cell? ⟨u2.heap.size, 6, none⟩ = some (.slice A2 n1 k2) := SE2.out.cell 6
    have KS0 : Hid (∀ q : World, Keep u3.drew q → (q.cell? ⟨u1.heap.size, 0, none⟩ = some (.int .i64 (Cl : Int)) ∧ q.cell? ⟨u1.heap.size, 1, none⟩ = some (.int .i64 (Lb : Int)) ∧ q.cell? ⟨u1.heap.size, 2, none⟩ = some (.int .i64 (Hp : Int)) ∧ q.cell? ⟨u1.heap.size, 3, none⟩ = some (.int .i64 (Pr : Int)) ∧ q.cell? ⟨u1.heap.size, 4, none⟩ = some (.string (bsL s1)) ∧ q.cell? ⟨u1.heap.size, 5, none⟩ = some (.string (bsL d1)) ∧ q.cell? ⟨u1.heap.size, 6, none⟩ = some (.slice A1 n1 k1) ∧ q.cell? ⟨u2.heap.size, 0, none⟩ = some (.int .i64 (Cl : Int)) ∧ q.cell? ⟨u2.heap.size, 1, none⟩ = some (.int .i64 (Lb : Int)) ∧ q.cell? ⟨u2.heap.size, 2, none⟩ = some (.int .i64 (Hp : Int)) ∧ q.cell? ⟨u2.heap.size, 3, none⟩ = some (.int .i64 (Pr : Int)) ∧ q.cell? ⟨u2.heap.size, 4, none⟩ = some (.string (bsL s1)) ∧ q.cell? ⟨u2.heap.size, 5, none⟩ = some (.string (bsL d1)) ∧ q.cell? ⟨u2.heap.size, 6, none⟩ = some (.slice A2 n1 k2))) := fun q kq => by
      have k1 : Keep u3 q := fun a v e => kq a v e
      exact ⟨k1 _ _ x0, k1 _ _ x1, k1 _ _ x2, k1 _ _ x3, k1 _ _ x4, k1 _ _ x5, k1 _ _ x6, k1 _ _ y0, k1 _ _ y1, k1 _ _ y2, k1 _ _ y3, k1 _ _ y4, k1 _ _ y5, k1 _ _ y6⟩
    go_wp2_with fail
    go_region_held3 (fun w' => w'.cell? ⟨u1.heap.size, 0, none⟩ = some (.int .i64 (Cl : Int)) ∧ w'.cell? ⟨u1.heap.size, 1, none⟩ = some (.int .i64 (Lb : Int)) ∧ w'.cell? ⟨u1.heap.size, 2, none⟩ = some (.int .i64 (Hp : Int)) ∧ w'.cell? ⟨u1.heap.size, 3, none⟩ = some (.int .i64 (Pr : Int)) ∧ w'.cell? ⟨u1.heap.size, 4, none⟩ = some (.string (bsL s1)) ∧ w'.cell? ⟨u1.heap.size, 5, none⟩ = some (.string (bsL d1)) ∧ w'.cell? ⟨u1.heap.size, 6, none⟩ = some (.slice A1 n1 k1) ∧ w'.cell? ⟨u2.heap.size, 0, none⟩ = some (.int .i64 (Cl : Int)) ∧ w'.cell? ⟨u2.heap.size, 1, none⟩ = some (.int .i64 (Lb : Int)) ∧ w'.cell? ⟨u2.heap.size, 2, none⟩ = some (.int .i64 (Hp : Int)) ∧ w'.cell? ⟨u2.heap.size, 3, none⟩ = some (.int .i64 (Pr : Int)) ∧ w'.cell? ⟨u2.heap.size, 4, none⟩ = some (.string (bsL s1)) ∧ w'.cell? ⟨u2.heap.size, 5, none⟩ = some (.string (bsL d1)) ∧ w'.cell? ⟨u2.heap.size, 6, none⟩ = some (.slice A2 n1 k2)) (first | go_keep | exact KQ3.out | exact KQ2.out | exact KQ1.out) (first
      | (go_simp; have fl := HY1; clear fl; go_at_call 12; refine (ref_any _ _ ⟨Cl, Lb, Hp, Pr, s1, d1, C1⟩ (HX1.out _ (K6.out.1.trans HW1.out)) hn1.out).mono ?_; rintro e q2 ⟨y2, rfl, fy, c2⟩; have HY2 : Hid (HdAt q2 y1 ⟨Cl, Lb, Hp, Pr, s1, d1, C1⟩ ∧ HdAt q2 y2 ⟨Cl, Lb, Hp, Pr, s1, d1, C1⟩) := ⟨HY1.out.keep (keep_of_below c2), fy⟩; have HW2 : Hid (Keep u3.drew q2) := HW1.out.trans (keep_of_below c2); have KQ2 : Hid (_) := KS0.out q2 HW2.out; have W2 : Hid (Below w.heap.size w q2) := bel_trans W1.out c2; clear fy c2)
      | (go_simp; go_at_call 12; refine (ref_any _ _ ⟨Cl, Lb, Hp, Pr, s1, d1, C1⟩ (HX2.out _ K6.out.2) hn1.out).mono ?_; rintro e q1 ⟨y1, rfl, fy, c1⟩; have HY1 : Hid (HdAt q1 y1 ⟨Cl, Lb, Hp, Pr, s1, d1, C1⟩) := fy; have HW1 : Hid (Keep u3.drew q1) := keep_of_below c1; have KQ1 : Hid (_) := KS0.out q1 HW1.out; have W1 : Hid (Below w.heap.size w q1) := bel_trans BU3.out ⟨c1.os, c1.tape, c1.output, c1.size, c1.block⟩; clear fy c1)
      | (go_simp; go_at_call 11; refine (equal_any _ _ _ ⟨Cl, Lb, Hp, Pr, s1, d1, C1⟩ HY2.out.1 HY2.out.2 hn2.out).mono ?_; rintro e q3 ⟨rfl, c3⟩; have HW3 : Hid (Keep u3.drew q3) := HW2.out.trans (keep_of_below c3); have KQ3 : Hid (_) := KS0.out q3 HW3.out; have W3 : Hid (Below w.heap.size w q3) := bel_trans W2.out c3; clear c3))
    all_goals go_wp2_with fail
    all_goals refine (awake_any _).mono ?_
    all_goals rintro e u9 ⟨rfl, b9⟩
    all_goals go_wp2_with fail
    all_goals go_ret
    all_goals exact ⟨rfl, bel_trans W3.out b9⟩
  have nl : ¬ (l.length : Int) < (Nt : Int) := by omega
  have cl : (c : Int) ≤ (l.length : Int) := by omega
  have lt : (l.take c).length ≤ 1152921504606846976 := by simp; omega
  by_cases k4 : (c : Int) < 40
  · have CA4 : Hid (takeE (l.take c) = 2) := by
      have e := CA.out c (by have := HNt.out; omega)
      rw [if_pos (by omega)] at e
      exact e
    go_enter Try.func7, Try.ntmps7
    go_wp2_with fail
    refine (ptake_any _ (l) (by omega)).mono ?_
    rintro e u1 ⟨c1, b1, h1, p1, s1, d1, C1, A1, n1, k1, r1, E1, rfl, hq, hC, bb⟩
    have HQ1 : Hid (hdOf (l) = ⟨c1, b1, h1, p1, s1, d1, C1⟩ ∧ bodyOf (l) = r1 ∧ takeE (l) = E1 ∧ C1.length = n1) := hq
    have HX1 : Hid (∀ w' : World, Keep u1 w' → HdAt w' (.agg #[.int .i64 c1, .int .i64 b1, .int .i64 h1, .int .i64 p1, .string (bsL s1), .string (bsL d1), .slice A1 n1 k1]) ⟨c1, b1, h1, p1, s1, d1, C1⟩) := fun w' k => ⟨_, rfl, by have e := hq.2.2.2; subst e; exact hC.keep k⟩
    have BU1 : Hid (Below w.heap.size w u1) := bb
    clear hq hC bb
    obtain rfl := HQ1.out.2.2.1.symm.trans HE.out
    have BB1 : Hid (Below w.heap.size w (u1.alloc (.cells #[.int .i64 c1, .int .i64 b1, .int .i64 h1, .int .i64 p1, .string (bsL s1), .string (bsL d1), .slice A1 n1 k1] 25))) := BU1.out.alloc BU1.out.size _
    have SB1 : Hid (Blk (u1.alloc (.cells #[.int .i64 c1, .int .i64 b1, .int .i64 h1, .int .i64 p1, .string (bsL s1), .string (bsL d1), .slice A1 n1 k1] 25)) u1.heap.size 25 #[.int .i64 c1, .int .i64 b1, .int .i64 h1, .int .i64 p1, .string (bsL s1), .string (bsL d1), .slice A1 n1 k1]) := Blk.new _ _ _
    go_wp2_with fail
    refine (ptake_any _ (l ++ m) lm).mono ?_
    rintro e u2 ⟨c2, b2, h2, p2, s2, d2, C2, A2, n2, k2, r2, E2, rfl, hq, hC, bb⟩
    have HQ2 : Hid (hdOf (l ++ m) = ⟨c2, b2, h2, p2, s2, d2, C2⟩ ∧ bodyOf (l ++ m) = r2 ∧ takeE (l ++ m) = E2 ∧ C2.length = n2) := hq
    have HX2 : Hid (∀ w' : World, Keep u2 w' → HdAt w' (.agg #[.int .i64 c2, .int .i64 b2, .int .i64 h2, .int .i64 p2, .string (bsL s2), .string (bsL d2), .slice A2 n2 k2]) ⟨c2, b2, h2, p2, s2, d2, C2⟩) := fun w' k => ⟨_, rfl, by have e := hq.2.2.2; subst e; exact hC.keep k⟩
    have BU2 : Hid (Below w.heap.size w u2) := bel_trans BB1.out bb
    have SC1 : Hid (Blk u2 u1.heap.size 25 #[.int .i64 c1, .int .i64 b1, .int .i64 h1, .int .i64 p1, .string (bsL s1), .string (bsL d1), .slice A1 n1 k1]) := SB1.out.since bb
    have KP2 : Hid (Keep u1 u2) := (keep_of_below (bel_alloc _ _)).trans (keep_of_below bb)
    clear hq hC bb
    obtain ⟨rfl, rfl, rfl, rfl, rfl, rfl, rfl⟩ := Hd.mk.inj (HQ1.out.1.symm.trans (HT.out.2.1.symm.trans HQ2.out.1))
    obtain rfl := HQ1.out.2.1.symm.trans (HT.out.2.2.symm.trans HQ2.out.2.1)
    obtain rfl := HQ2.out.2.2.1.symm.trans HT.out.1
    obtain rfl := HQ1.out.2.2.2.symm.trans HQ2.out.2.2.2
    have HO2 := HO.out
    rw [HQ1.out.1, HQ1.out.2.1] at HO2
    have HR : Hid (RightP ⟨c1, b1, h1, p1, s1, d1, C1⟩) := HO2.1
    obtain ⟨r1, r2, r3, r4, _⟩ := HR.out
    simp only at r1 r2 r3 r4
    obtain ⟨Cl, rfl⟩ : ∃ N : Nat, c1 = N := ⟨c1.toNat, by omega⟩
    obtain ⟨Lb, rfl⟩ : ∃ N : Nat, b1 = N := ⟨b1.toNat, by omega⟩
    obtain ⟨Hp, rfl⟩ : ∃ N : Nat, h1 = N := ⟨h1.toNat, by omega⟩
    obtain ⟨Pr, rfl⟩ : ∃ N : Nat, p1 = N := ⟨p1.toNat, by omega⟩
    clear r1 r2 r3 r4
    have PQ : Hid (putL ⟨Cl, Lb, Hp, Pr, s1, d1, C1⟩ r1 = l.take Nt ∧ (chainL C1 Pr).length + r1.length ≤ 65535) := ⟨by rw [HNt.out]; exact HO2.2.1, by have h3 := HO2.2.2.1; have h5 := HO2.2.2.2.2; simp only at h3; omega⟩
    have r1l : r1.length ≤ 1152921504606846976 := by have := PQ.out.2; omega
    have C8 : Hid (C1.length ≤ 8) := HR.out.2.2.2.2.2.2.2.1
    have hn1 : Hid (C1.length * 24 ≤ 140737488355328) := by show _ ≤ _; have := C8.out; omega
    have hn2 : Hid (C1.length ≤ 9223372036854775807) := by show _ ≤ _; have := C8.out; omega
    have PT : Hid (∀ u : World, Keep u1 u → Calls Try.prog 16 #[.agg #[.int .i64 (Cl : Int), .int .i64 (Lb : Int), .int .i64 (Hp : Int), .int .i64 (Pr : Int), .string (bsL s1), .string (bsL d1), .slice A1 n1 k1], .string (bsL r1)] u (Wrote u (l.take Nt) 0)) := fun u kp => by
      rw [← PQ.out.1]
      exact (pput_two u Cl Lb Hp Pr s1 d1 r1 C1 A1 n1 k1 (HX1.out u kp) HR.out r1l).mono fun e w' h => h.1 PQ.out.2
    clear HO2
    have pl : u1.heap.size < u2.heap.size := SC1.out.lt
    have TL : (l.take Nt).length = Nt := by simp; omega
    generalize l.take Nt = Tl at PT TL
    have x0 : u2.cell? ⟨u1.heap.size, 0, none⟩ = some (.int .i64 (Cl : Int)) := SC1.out.cell 0
    have x1 : u2.cell? ⟨u1.heap.size, 1, none⟩ = some (.int .i64 (Lb : Int)) := SC1.out.cell 1
    have x2 : u2.cell? ⟨u1.heap.size, 2, none⟩ = some (.int .i64 (Hp : Int)) := SC1.out.cell 2
    have x3 : u2.cell? ⟨u1.heap.size, 3, none⟩ = some (.int .i64 (Pr : Int)) := SC1.out.cell 3
    have x4 : u2.cell? ⟨u1.heap.size, 4, none⟩ = some (.string (bsL s1)) := SC1.out.cell 4
    have x5 : u2.cell? ⟨u1.heap.size, 5, none⟩ = some (.string (bsL d1)) := SC1.out.cell 5
    have x6 : u2.cell? ⟨u1.heap.size, 6, none⟩ = some (.slice A1 n1 k1) := SC1.out.cell 6
    have BB2 : Hid (Below w.heap.size w (u2.alloc (.cells #[.int .i64 (Cl : Int), .int .i64 (Lb : Int), .int .i64 (Hp : Int), .int .i64 (Pr : Int), .string (bsL s1), .string (bsL d1), .slice A2 n1 k2] 25))) := BU2.out.alloc BU2.out.size _
    have SB2 : Hid (Blk (u2.alloc (.cells #[.int .i64 (Cl : Int), .int .i64 (Lb : Int), .int .i64 (Hp : Int), .int .i64 (Pr : Int), .string (bsL s1), .string (bsL d1), .slice A2 n1 k2] 25)) u2.heap.size 25 #[.int .i64 (Cl : Int), .int .i64 (Lb : Int), .int .i64 (Hp : Int), .int .i64 (Pr : Int), .string (bsL s1), .string (bsL d1), .slice A2 n1 k2]) := Blk.new _ _ _
    have SD1 : Hid (Blk (u2.alloc (.cells #[.int .i64 (Cl : Int), .int .i64 (Lb : Int), .int .i64 (Hp : Int), .int .i64 (Pr : Int), .string (bsL s1), .string (bsL d1), .slice A2 n1 k2] 25)) u1.heap.size 25 #[.int .i64 (Cl : Int), .int .i64 (Lb : Int), .int .i64 (Hp : Int), .int .i64 (Pr : Int), .string (bsL s1), .string (bsL d1), .slice A1 n1 k1]) := SC1.out.alloc _
    have KP3 : Hid (Keep u1 (u2.alloc (.cells #[.int .i64 (Cl : Int), .int .i64 (Lb : Int), .int .i64 (Hp : Int), .int .i64 (Pr : Int), .string (bsL s1), .string (bsL d1), .slice A2 n1 k2] 25)) ∧ Keep u2 (u2.alloc (.cells #[.int .i64 (Cl : Int), .int .i64 (Lb : Int), .int .i64 (Hp : Int), .int .i64 (Pr : Int), .string (bsL s1), .string (bsL d1), .slice A2 n1 k2] 25))) := ⟨KP2.out.trans (keep_of_below (bel_alloc _ _)), keep_of_below (bel_alloc _ _)⟩
    go_wp2_with fail
    refine (PT.out _ KP3.out.1).mono ?_
    rintro e u3 ⟨rfl, b3⟩
    have BU3 : Hid (Below w.heap.size w u3) := bel_trans BB2.out b3
    have SE1 : Hid (Blk u3 u1.heap.size 25 #[.int .i64 (Cl : Int), .int .i64 (Lb : Int), .int .i64 (Hp : Int), .int .i64 (Pr : Int), .string (bsL s1), .string (bsL d1), .slice A1 n1 k1]) := SD1.out.since b3
    have SE2 : Hid (Blk u3 u2.heap.size 25 #[.int .i64 (Cl : Int), .int .i64 (Lb : Int), .int .i64 (Hp : Int), .int .i64 (Pr : Int), .string (bsL s1), .string (bsL d1), .slice A2 n1 k2]) := SB2.out.since b3
    have K6 : Hid (Keep u1 u3.drew ∧ Keep u2 u3.drew) := ⟨keep_heap (KP3.out.1.trans (keep_of_below b3)) rfl, keep_heap (KP3.out.2.trans (keep_of_below b3)) rfl⟩
    clear b3 x0 x1 x2 x3 x4 x5 x6
    have x0 : u3.cell? ⟨u1.heap.size, 0, none⟩ = some (.int .i64 (Cl : Int)) := SE1.out.cell 0
    have x1 : u3.cell? ⟨u1.heap.size, 1, none⟩ = some (.int .i64 (Lb : Int)) := SE1.out.cell 1
    have x2 : u3.cell? ⟨u1.heap.size, 2, none⟩ = some (.int .i64 (Hp : Int)) := SE1.out.cell 2
    have x3 : u3.cell? ⟨u1.heap.size, 3, none⟩ = some (.int .i64 (Pr : Int)) := SE1.out.cell 3
    have x4 : u3.cell? ⟨u1.heap.size, 4, none⟩ = some (.string (bsL s1)) := SE1.out.cell 4
    have x5 : u3.cell? ⟨u1.heap.size, 5, none⟩ = some (.string (bsL d1)) := SE1.out.cell 5
    have x6 : u3.cell? ⟨u1.heap.size, 6, none⟩ = some (.slice A1 n1 k1) := SE1.out.cell 6
    have y0 : u3.cell? ⟨u2.heap.size, 0, none⟩ = some (.int .i64 (Cl : Int)) := SE2.out.cell 0
    have y1 : u3.cell? ⟨u2.heap.size, 1, none⟩ = some (.int .i64 (Lb : Int)) := SE2.out.cell 1
    have y2 : u3.cell? ⟨u2.heap.size, 2, none⟩ = some (.int .i64 (Hp : Int)) := SE2.out.cell 2
    have y3 : u3.cell? ⟨u2.heap.size, 3, none⟩ = some (.int .i64 (Pr : Int)) := SE2.out.cell 3
    have y4 : u3.cell? ⟨u2.heap.size, 4, none⟩ = some (.string (bsL s1)) := SE2.out.cell 4
    have y5 : u3.cell? ⟨u2.heap.size, 5, none⟩ = some (.string (bsL d1)) := SE2.out.cell 5
    have y6 : u3.cell? ⟨u2.heap.size, 6, none⟩ = some (.slice A2 n1 k2) := SE2.out.cell 6
    have KS0 : Hid (∀ q : World, Keep u3.drew q → (q.cell? ⟨u1.heap.size, 0, none⟩ = some (.int .i64 (Cl : Int)) ∧ q.cell? ⟨u1.heap.size, 1, none⟩ = some (.int .i64 (Lb : Int)) ∧ q.cell? ⟨u1.heap.size, 2, none⟩ = some (.int .i64 (Hp : Int)) ∧ q.cell? ⟨u1.heap.size, 3, none⟩ = some (.int .i64 (Pr : Int)) ∧ q.cell? ⟨u1.heap.size, 4, none⟩ = some (.string (bsL s1)) ∧ q.cell? ⟨u1.heap.size, 5, none⟩ = some (.string (bsL d1)) ∧ q.cell? ⟨u1.heap.size, 6, none⟩ = some (.slice A1 n1 k1) ∧ q.cell? ⟨u2.heap.size, 0, none⟩ = some (.int .i64 (Cl : Int)) ∧ q.cell? ⟨u2.heap.size, 1, none⟩ = some (.int .i64 (Lb : Int)) ∧ q.cell? ⟨u2.heap.size, 2, none⟩ = some (.int .i64 (Hp : Int)) ∧ q.cell? ⟨u2.heap.size, 3, none⟩ = some (.int .i64 (Pr : Int)) ∧ q.cell? ⟨u2.heap.size, 4, none⟩ = some (.string (bsL s1)) ∧ q.cell? ⟨u2.heap.size, 5, none⟩ = some (.string (bsL d1)) ∧ q.cell? ⟨u2.heap.size, 6, none⟩ = some (.slice A2 n1 k2))) := fun q kq => by
      have k1 : Keep u3 q := fun a v e => kq a v e
      exact ⟨k1 _ _ x0, k1 _ _ x1, k1 _ _ x2, k1 _ _ x3, k1 _ _ x4, k1 _ _ x5, k1 _ _ x6, k1 _ _ y0, k1 _ _ y1, k1 _ _ y2, k1 _ _ y3, k1 _ _ y4, k1 _ _ y5, k1 _ _ y6⟩
    go_wp2_with fail
    go_region_held3 (fun w' => w'.cell? ⟨u1.heap.size, 0, none⟩ = some (.int .i64 (Cl : Int)) ∧ w'.cell? ⟨u1.heap.size, 1, none⟩ = some (.int .i64 (Lb : Int)) ∧ w'.cell? ⟨u1.heap.size, 2, none⟩ = some (.int .i64 (Hp : Int)) ∧ w'.cell? ⟨u1.heap.size, 3, none⟩ = some (.int .i64 (Pr : Int)) ∧ w'.cell? ⟨u1.heap.size, 4, none⟩ = some (.string (bsL s1)) ∧ w'.cell? ⟨u1.heap.size, 5, none⟩ = some (.string (bsL d1)) ∧ w'.cell? ⟨u1.heap.size, 6, none⟩ = some (.slice A1 n1 k1) ∧ w'.cell? ⟨u2.heap.size, 0, none⟩ = some (.int .i64 (Cl : Int)) ∧ w'.cell? ⟨u2.heap.size, 1, none⟩ = some (.int .i64 (Lb : Int)) ∧ w'.cell? ⟨u2.heap.size, 2, none⟩ = some (.int .i64 (Hp : Int)) ∧ w'.cell? ⟨u2.heap.size, 3, none⟩ = some (.int .i64 (Pr : Int)) ∧ w'.cell? ⟨u2.heap.size, 4, none⟩ = some (.string (bsL s1)) ∧ w'.cell? ⟨u2.heap.size, 5, none⟩ = some (.string (bsL d1)) ∧ w'.cell? ⟨u2.heap.size, 6, none⟩ = some (.slice A2 n1 k2)) (first | go_keep | exact KQ3.out | exact KQ2.out | exact KQ1.out) (first
      | (go_simp; have fl := HY1; clear fl; go_at_call 12; refine (ref_any _ _ ⟨Cl, Lb, Hp, Pr, s1, d1, C1⟩ (HX1.out _ (K6.out.1.trans HW1.out)) hn1.out).mono ?_; rintro e q2 ⟨y2, rfl, fy, c2⟩; have HY2 : Hid (HdAt q2 y1 ⟨Cl, Lb, Hp, Pr, s1, d1, C1⟩ ∧ HdAt q2 y2 ⟨Cl, Lb, Hp, Pr, s1, d1, C1⟩) := ⟨HY1.out.keep (keep_of_below c2), fy⟩; have HW2 : Hid (Keep u3.drew q2) := HW1.out.trans (keep_of_below c2); have KQ2 : Hid (_) := KS0.out q2 HW2.out; have W2 : Hid (Below w.heap.size w q2) := bel_trans W1.out c2; clear fy c2)
      | (go_simp; go_at_call 12; refine (ref_any _ _ ⟨Cl, Lb, Hp, Pr, s1, d1, C1⟩ (HX2.out _ K6.out.2) hn1.out).mono ?_; rintro e q1 ⟨y1, rfl, fy, c1⟩; have HY1 : Hid (HdAt q1 y1 ⟨Cl, Lb, Hp, Pr, s1, d1, C1⟩) := fy; have HW1 : Hid (Keep u3.drew q1) := keep_of_below c1; have KQ1 : Hid (_) := KS0.out q1 HW1.out; have W1 : Hid (Below w.heap.size w q1) := bel_trans BU3.out ⟨c1.os, c1.tape, c1.output, c1.size, c1.block⟩; clear fy c1)
      | (go_simp; go_at_call 11; refine (equal_any _ _ _ ⟨Cl, Lb, Hp, Pr, s1, d1, C1⟩ HY2.out.1 HY2.out.2 hn2.out).mono ?_; rintro e q3 ⟨rfl, c3⟩; have HW3 : Hid (Keep u3.drew q3) := HW2.out.trans (keep_of_below c3); have KQ3 : Hid (_) := KS0.out q3 HW3.out; have W3 : Hid (Below w.heap.size w q3) := bel_trans W2.out c3; clear c3))
    all_goals go_wp2_with fail
    all_goals refine (ptake_any _ (l.take c) lt).mono ?_
    all_goals rintro e u4 ⟨c4, b4, h4, p4, s4, d4, C4, A4, n4, k4, r4, E4, rfl, hq, hC, bb⟩
    all_goals have HQ4 : Hid (hdOf (l.take c) = ⟨c4, b4, h4, p4, s4, d4, C4⟩ ∧ bodyOf (l.take c) = r4 ∧ takeE (l.take c) = E4 ∧ C4.length = n4) := hq
    all_goals have HX4 : Hid (∀ w' : World, Keep u4 w' → HdAt w' (.agg #[.int .i64 c4, .int .i64 b4, .int .i64 h4, .int .i64 p4, .string (bsL s4), .string (bsL d4), .slice A4 n4 k4]) ⟨c4, b4, h4, p4, s4, d4, C4⟩) := fun w' k => ⟨_, rfl, by have e := hq.2.2.2; subst e; exact hC.keep k⟩
    all_goals have BU4 : Hid (Below w.heap.size w u4) := bel_trans W3.out bb
    all_goals clear hq hC bb
    all_goals obtain rfl := HQ4.out.2.2.1.symm.trans CA4.out
    all_goals have BB4 : Hid (Below w.heap.size w (u4.alloc (.cells #[.int .i64 c4, .int .i64 b4, .int .i64 h4, .int .i64 p4, .string (bsL s4), .string (bsL d4), .slice A4 n4 k4] 25))) := BU4.out.alloc BU4.out.size _
    all_goals go_wp2_with fail
    all_goals refine (awake_any _).mono ?_
    all_goals rintro e u9 ⟨rfl, b9⟩
    all_goals go_wp2_with fail
    all_goals go_ret
    all_goals exact ⟨rfl, bel_trans BB4.out b9⟩
  have q40 : decide ((c : Int) < 40) = false := by simp; omega
  have CA4 : Hid (takeE (l.take c) = 13) := by
    have e := CA.out c (by have := HNt.out; omega)
    rw [if_neg (by omega)] at e
    exact e
  go_enter Try.func7, Try.ntmps7
  go_wp2_with fail
  refine (ptake_any _ (l) (by omega)).mono ?_
  rintro e u1 ⟨c1, b1, h1, p1, s1, d1, C1, A1, n1, k1, r1, E1, rfl, hq, hC, bb⟩
  have HQ1 : Hid (hdOf (l) = ⟨c1, b1, h1, p1, s1, d1, C1⟩ ∧ bodyOf (l) = r1 ∧ takeE (l) = E1 ∧ C1.length = n1) := hq
  have HX1 : Hid (∀ w' : World, Keep u1 w' → HdAt w' (.agg #[.int .i64 c1, .int .i64 b1, .int .i64 h1, .int .i64 p1, .string (bsL s1), .string (bsL d1), .slice A1 n1 k1]) ⟨c1, b1, h1, p1, s1, d1, C1⟩) := fun w' k => ⟨_, rfl, by have e := hq.2.2.2; subst e; exact hC.keep k⟩
  have BU1 : Hid (Below w.heap.size w u1) := bb
  clear hq hC bb
  obtain rfl := HQ1.out.2.2.1.symm.trans HE.out
  have BB1 : Hid (Below w.heap.size w (u1.alloc (.cells #[.int .i64 c1, .int .i64 b1, .int .i64 h1, .int .i64 p1, .string (bsL s1), .string (bsL d1), .slice A1 n1 k1] 25))) := BU1.out.alloc BU1.out.size _
  have SB1 : Hid (Blk (u1.alloc (.cells #[.int .i64 c1, .int .i64 b1, .int .i64 h1, .int .i64 p1, .string (bsL s1), .string (bsL d1), .slice A1 n1 k1] 25)) u1.heap.size 25 #[.int .i64 c1, .int .i64 b1, .int .i64 h1, .int .i64 p1, .string (bsL s1), .string (bsL d1), .slice A1 n1 k1]) := Blk.new _ _ _
  go_wp2_with fail
  refine (ptake_any _ (l ++ m) lm).mono ?_
  rintro e u2 ⟨c2, b2, h2, p2, s2, d2, C2, A2, n2, k2, r2, E2, rfl, hq, hC, bb⟩
  have HQ2 : Hid (hdOf (l ++ m) = ⟨c2, b2, h2, p2, s2, d2, C2⟩ ∧ bodyOf (l ++ m) = r2 ∧ takeE (l ++ m) = E2 ∧ C2.length = n2) := hq
  have HX2 : Hid (∀ w' : World, Keep u2 w' → HdAt w' (.agg #[.int .i64 c2, .int .i64 b2, .int .i64 h2, .int .i64 p2, .string (bsL s2), .string (bsL d2), .slice A2 n2 k2]) ⟨c2, b2, h2, p2, s2, d2, C2⟩) := fun w' k => ⟨_, rfl, by have e := hq.2.2.2; subst e; exact hC.keep k⟩
  have BU2 : Hid (Below w.heap.size w u2) := bel_trans BB1.out bb
  have SC1 : Hid (Blk u2 u1.heap.size 25 #[.int .i64 c1, .int .i64 b1, .int .i64 h1, .int .i64 p1, .string (bsL s1), .string (bsL d1), .slice A1 n1 k1]) := SB1.out.since bb
  have KP2 : Hid (Keep u1 u2) := (keep_of_below (bel_alloc _ _)).trans (keep_of_below bb)
  clear hq hC bb
  obtain ⟨rfl, rfl, rfl, rfl, rfl, rfl, rfl⟩ := Hd.mk.inj (HQ1.out.1.symm.trans (HT.out.2.1.symm.trans HQ2.out.1))
  obtain rfl := HQ1.out.2.1.symm.trans (HT.out.2.2.symm.trans HQ2.out.2.1)
  obtain rfl := HQ2.out.2.2.1.symm.trans HT.out.1
  obtain rfl := HQ1.out.2.2.2.symm.trans HQ2.out.2.2.2
  have HO2 := HO.out
  rw [HQ1.out.1, HQ1.out.2.1] at HO2
  have HR : Hid (RightP ⟨c1, b1, h1, p1, s1, d1, C1⟩) := HO2.1
  obtain ⟨r1, r2, r3, r4, _⟩ := HR.out
  simp only at r1 r2 r3 r4
  obtain ⟨Cl, rfl⟩ : ∃ N : Nat, c1 = N := ⟨c1.toNat, by omega⟩
  obtain ⟨Lb, rfl⟩ : ∃ N : Nat, b1 = N := ⟨b1.toNat, by omega⟩
  obtain ⟨Hp, rfl⟩ : ∃ N : Nat, h1 = N := ⟨h1.toNat, by omega⟩
  obtain ⟨Pr, rfl⟩ : ∃ N : Nat, p1 = N := ⟨p1.toNat, by omega⟩
  clear r1 r2 r3 r4
  have PQ : Hid (putL ⟨Cl, Lb, Hp, Pr, s1, d1, C1⟩ r1 = l.take Nt ∧ (chainL C1 Pr).length + r1.length ≤ 65535) := ⟨by rw [HNt.out]; exact HO2.2.1, by have h3 := HO2.2.2.1; have h5 := HO2.2.2.2.2; simp only at h3; omega⟩
  have r1l : r1.length ≤ 1152921504606846976 := by have := PQ.out.2; omega
  have C8 : Hid (C1.length ≤ 8) := HR.out.2.2.2.2.2.2.2.1
  have hn1 : Hid (C1.length * 24 ≤ 140737488355328) := by show _ ≤ _; have := C8.out; omega
  have hn2 : Hid (C1.length ≤ 9223372036854775807) := by show _ ≤ _; have := C8.out; omega
  have PT : Hid (∀ u : World, Keep u1 u → Calls Try.prog 16 #[.agg #[.int .i64 (Cl : Int), .int .i64 (Lb : Int), .int .i64 (Hp : Int), .int .i64 (Pr : Int), .string (bsL s1), .string (bsL d1), .slice A1 n1 k1], .string (bsL r1)] u (Wrote u (l.take Nt) 0)) := fun u kp => by
    rw [← PQ.out.1]
    exact (pput_two u Cl Lb Hp Pr s1 d1 r1 C1 A1 n1 k1 (HX1.out u kp) HR.out r1l).mono fun e w' h => h.1 PQ.out.2
  clear HO2
  have pl : u1.heap.size < u2.heap.size := SC1.out.lt
  have TL : (l.take Nt).length = Nt := by simp; omega
  generalize l.take Nt = Tl at PT TL
  have x0 : u2.cell? ⟨u1.heap.size, 0, none⟩ = some (.int .i64 (Cl : Int)) := SC1.out.cell 0
  have x1 : u2.cell? ⟨u1.heap.size, 1, none⟩ = some (.int .i64 (Lb : Int)) := SC1.out.cell 1
  have x2 : u2.cell? ⟨u1.heap.size, 2, none⟩ = some (.int .i64 (Hp : Int)) := SC1.out.cell 2
  have x3 : u2.cell? ⟨u1.heap.size, 3, none⟩ = some (.int .i64 (Pr : Int)) := SC1.out.cell 3
  have x4 : u2.cell? ⟨u1.heap.size, 4, none⟩ = some (.string (bsL s1)) := SC1.out.cell 4
  have x5 : u2.cell? ⟨u1.heap.size, 5, none⟩ = some (.string (bsL d1)) := SC1.out.cell 5
  have x6 : u2.cell? ⟨u1.heap.size, 6, none⟩ = some (.slice A1 n1 k1) := SC1.out.cell 6
  have BB2 : Hid (Below w.heap.size w (u2.alloc (.cells #[.int .i64 (Cl : Int), .int .i64 (Lb : Int), .int .i64 (Hp : Int), .int .i64 (Pr : Int), .string (bsL s1), .string (bsL d1), .slice A2 n1 k2] 25))) := BU2.out.alloc BU2.out.size _
  have SB2 : Hid (Blk (u2.alloc (.cells #[.int .i64 (Cl : Int), .int .i64 (Lb : Int), .int .i64 (Hp : Int), .int .i64 (Pr : Int), .string (bsL s1), .string (bsL d1), .slice A2 n1 k2] 25)) u2.heap.size 25 #[.int .i64 (Cl : Int), .int .i64 (Lb : Int), .int .i64 (Hp : Int), .int .i64 (Pr : Int), .string (bsL s1), .string (bsL d1), .slice A2 n1 k2]) := Blk.new _ _ _
  have SD1 : Hid (Blk (u2.alloc (.cells #[.int .i64 (Cl : Int), .int .i64 (Lb : Int), .int .i64 (Hp : Int), .int .i64 (Pr : Int), .string (bsL s1), .string (bsL d1), .slice A2 n1 k2] 25)) u1.heap.size 25 #[.int .i64 (Cl : Int), .int .i64 (Lb : Int), .int .i64 (Hp : Int), .int .i64 (Pr : Int), .string (bsL s1), .string (bsL d1), .slice A1 n1 k1]) := SC1.out.alloc _
  have KP3 : Hid (Keep u1 (u2.alloc (.cells #[.int .i64 (Cl : Int), .int .i64 (Lb : Int), .int .i64 (Hp : Int), .int .i64 (Pr : Int), .string (bsL s1), .string (bsL d1), .slice A2 n1 k2] 25)) ∧ Keep u2 (u2.alloc (.cells #[.int .i64 (Cl : Int), .int .i64 (Lb : Int), .int .i64 (Hp : Int), .int .i64 (Pr : Int), .string (bsL s1), .string (bsL d1), .slice A2 n1 k2] 25))) := ⟨KP2.out.trans (keep_of_below (bel_alloc _ _)), keep_of_below (bel_alloc _ _)⟩
  go_wp2_with fail
  refine (PT.out _ KP3.out.1).mono ?_
  rintro e u3 ⟨rfl, b3⟩
  have BU3 : Hid (Below w.heap.size w u3) := bel_trans BB2.out b3
  have SE1 : Hid (Blk u3 u1.heap.size 25 #[.int .i64 (Cl : Int), .int .i64 (Lb : Int), .int .i64 (Hp : Int), .int .i64 (Pr : Int), .string (bsL s1), .string (bsL d1), .slice A1 n1 k1]) := SD1.out.since b3
  have SE2 : Hid (Blk u3 u2.heap.size 25 #[.int .i64 (Cl : Int), .int .i64 (Lb : Int), .int .i64 (Hp : Int), .int .i64 (Pr : Int), .string (bsL s1), .string (bsL d1), .slice A2 n1 k2]) := SB2.out.since b3
  have K6 : Hid (Keep u1 u3.drew ∧ Keep u2 u3.drew) := ⟨keep_heap (KP3.out.1.trans (keep_of_below b3)) rfl, keep_heap (KP3.out.2.trans (keep_of_below b3)) rfl⟩
  clear b3 x0 x1 x2 x3 x4 x5 x6
  have x0 : u3.cell? ⟨u1.heap.size, 0, none⟩ = some (.int .i64 (Cl : Int)) := SE1.out.cell 0
  have x1 : u3.cell? ⟨u1.heap.size, 1, none⟩ = some (.int .i64 (Lb : Int)) := SE1.out.cell 1
  have x2 : u3.cell? ⟨u1.heap.size, 2, none⟩ = some (.int .i64 (Hp : Int)) := SE1.out.cell 2
  have x3 : u3.cell? ⟨u1.heap.size, 3, none⟩ = some (.int .i64 (Pr : Int)) := SE1.out.cell 3
  have x4 : u3.cell? ⟨u1.heap.size, 4, none⟩ = some (.string (bsL s1)) := SE1.out.cell 4
  have x5 : u3.cell? ⟨u1.heap.size, 5, none⟩ = some (.string (bsL d1)) := SE1.out.cell 5
  have x6 : u3.cell? ⟨u1.heap.size, 6, none⟩ = some (.slice A1 n1 k1) := SE1.out.cell 6
  have y0 : u3.cell? ⟨u2.heap.size, 0, none⟩ = some (.int .i64 (Cl : Int)) := SE2.out.cell 0
  have y1 : u3.cell? ⟨u2.heap.size, 1, none⟩ = some (.int .i64 (Lb : Int)) := SE2.out.cell 1
  have y2 : u3.cell? ⟨u2.heap.size, 2, none⟩ = some (.int .i64 (Hp : Int)) := SE2.out.cell 2
  have y3 : u3.cell? ⟨u2.heap.size, 3, none⟩ = some (.int .i64 (Pr : Int)) := SE2.out.cell 3
  have y4 : u3.cell? ⟨u2.heap.size, 4, none⟩ = some (.string (bsL s1)) := SE2.out.cell 4
  have y5 : u3.cell? ⟨u2.heap.size, 5, none⟩ = some (.string (bsL d1)) := SE2.out.cell 5
  have y6 : u3.cell? ⟨u2.heap.size, 6, none⟩ = some (.slice A2 n1 k2) := SE2.out.cell 6
  have KS0 : Hid (∀ q : World, Keep u3.drew q → (q.cell? ⟨u1.heap.size, 0, none⟩ = some (.int .i64 (Cl : Int)) ∧ q.cell? ⟨u1.heap.size, 1, none⟩ = some (.int .i64 (Lb : Int)) ∧ q.cell? ⟨u1.heap.size, 2, none⟩ = some (.int .i64 (Hp : Int)) ∧ q.cell? ⟨u1.heap.size, 3, none⟩ = some (.int .i64 (Pr : Int)) ∧ q.cell? ⟨u1.heap.size, 4, none⟩ = some (.string (bsL s1)) ∧ q.cell? ⟨u1.heap.size, 5, none⟩ = some (.string (bsL d1)) ∧ q.cell? ⟨u1.heap.size, 6, none⟩ = some (.slice A1 n1 k1) ∧ q.cell? ⟨u2.heap.size, 0, none⟩ = some (.int .i64 (Cl : Int)) ∧ q.cell? ⟨u2.heap.size, 1, none⟩ = some (.int .i64 (Lb : Int)) ∧ q.cell? ⟨u2.heap.size, 2, none⟩ = some (.int .i64 (Hp : Int)) ∧ q.cell? ⟨u2.heap.size, 3, none⟩ = some (.int .i64 (Pr : Int)) ∧ q.cell? ⟨u2.heap.size, 4, none⟩ = some (.string (bsL s1)) ∧ q.cell? ⟨u2.heap.size, 5, none⟩ = some (.string (bsL d1)) ∧ q.cell? ⟨u2.heap.size, 6, none⟩ = some (.slice A2 n1 k2))) := fun q kq => by
    have k1 : Keep u3 q := fun a v e => kq a v e
    exact ⟨k1 _ _ x0, k1 _ _ x1, k1 _ _ x2, k1 _ _ x3, k1 _ _ x4, k1 _ _ x5, k1 _ _ x6, k1 _ _ y0, k1 _ _ y1, k1 _ _ y2, k1 _ _ y3, k1 _ _ y4, k1 _ _ y5, k1 _ _ y6⟩
  go_wp2_with fail
  go_region_held3 (fun w' => w'.cell? ⟨u1.heap.size, 0, none⟩ = some (.int .i64 (Cl : Int)) ∧ w'.cell? ⟨u1.heap.size, 1, none⟩ = some (.int .i64 (Lb : Int)) ∧ w'.cell? ⟨u1.heap.size, 2, none⟩ = some (.int .i64 (Hp : Int)) ∧ w'.cell? ⟨u1.heap.size, 3, none⟩ = some (.int .i64 (Pr : Int)) ∧ w'.cell? ⟨u1.heap.size, 4, none⟩ = some (.string (bsL s1)) ∧ w'.cell? ⟨u1.heap.size, 5, none⟩ = some (.string (bsL d1)) ∧ w'.cell? ⟨u1.heap.size, 6, none⟩ = some (.slice A1 n1 k1) ∧ w'.cell? ⟨u2.heap.size, 0, none⟩ = some (.int .i64 (Cl : Int)) ∧ w'.cell? ⟨u2.heap.size, 1, none⟩ = some (.int .i64 (Lb : Int)) ∧ w'.cell? ⟨u2.heap.size, 2, none⟩ = some (.int .i64 (Hp : Int)) ∧ w'.cell? ⟨u2.heap.size, 3, none⟩ = some (.int .i64 (Pr : Int)) ∧ w'.cell? ⟨u2.heap.size, 4, none⟩ = some (.string (bsL s1)) ∧ w'.cell? ⟨u2.heap.size, 5, none⟩ = some (.string (bsL d1)) ∧ w'.cell? ⟨u2.heap.size, 6, none⟩ = some (.slice A2 n1 k2)) (first | go_keep | exact KQ3.out | exact KQ2.out | exact KQ1.out) (first
    | (go_simp; have fl := HY1; clear fl; go_at_call 12; refine (ref_any _ _ ⟨Cl, Lb, Hp, Pr, s1, d1, C1⟩ (HX1.out _ (K6.out.1.trans HW1.out)) hn1.out).mono ?_; rintro e q2 ⟨y2, rfl, fy, c2⟩; have HY2 : Hid (HdAt q2 y1 ⟨Cl, Lb, Hp, Pr, s1, d1, C1⟩ ∧ HdAt q2 y2 ⟨Cl, Lb, Hp, Pr, s1, d1, C1⟩) := ⟨HY1.out.keep (keep_of_below c2), fy⟩; have HW2 : Hid (Keep u3.drew q2) := HW1.out.trans (keep_of_below c2); have KQ2 : Hid (_) := KS0.out q2 HW2.out; have W2 : Hid (Below w.heap.size w q2) := bel_trans W1.out c2; clear fy c2)
    | (go_simp; go_at_call 12; refine (ref_any _ _ ⟨Cl, Lb, Hp, Pr, s1, d1, C1⟩ (HX2.out _ K6.out.2) hn1.out).mono ?_; rintro e q1 ⟨y1, rfl, fy, c1⟩; have HY1 : Hid (HdAt q1 y1 ⟨Cl, Lb, Hp, Pr, s1, d1, C1⟩) := fy; have HW1 : Hid (Keep u3.drew q1) := keep_of_below c1; have KQ1 : Hid (_) := KS0.out q1 HW1.out; have W1 : Hid (Below w.heap.size w q1) := bel_trans BU3.out ⟨c1.os, c1.tape, c1.output, c1.size, c1.block⟩; clear fy c1)
    | (go_simp; go_at_call 11; refine (equal_any _ _ _ ⟨Cl, Lb, Hp, Pr, s1, d1, C1⟩ HY2.out.1 HY2.out.2 hn2.out).mono ?_; rintro e q3 ⟨rfl, c3⟩; have HW3 : Hid (Keep u3.drew q3) := HW2.out.trans (keep_of_below c3); have KQ3 : Hid (_) := KS0.out q3 HW3.out; have W3 : Hid (Below w.heap.size w q3) := bel_trans W2.out c3; clear c3))
  all_goals go_wp2_with fail
  all_goals refine (ptake_any _ (l.take c) lt).mono ?_
  all_goals rintro e u4 ⟨c4, b4, h4, p4, s4, d4, C4, A4, n4, k4, r4, E4, rfl, hq, hC, bb⟩
  all_goals have HQ4 : Hid (hdOf (l.take c) = ⟨c4, b4, h4, p4, s4, d4, C4⟩ ∧ bodyOf (l.take c) = r4 ∧ takeE (l.take c) = E4 ∧ C4.length = n4) := hq
  all_goals have HX4 : Hid (∀ w' : World, Keep u4 w' → HdAt w' (.agg #[.int .i64 c4, .int .i64 b4, .int .i64 h4, .int .i64 p4, .string (bsL s4), .string (bsL d4), .slice A4 n4 k4]) ⟨c4, b4, h4, p4, s4, d4, C4⟩) := fun w' k => ⟨_, rfl, by have e := hq.2.2.2; subst e; exact hC.keep k⟩
  all_goals have BU4 : Hid (Below w.heap.size w u4) := bel_trans W3.out bb
  all_goals clear hq hC bb
  all_goals obtain rfl := HQ4.out.2.2.1.symm.trans CA4.out
  all_goals have BB4 : Hid (Below w.heap.size w (u4.alloc (.cells #[.int .i64 c4, .int .i64 b4, .int .i64 h4, .int .i64 p4, .string (bsL s4), .string (bsL d4), .slice A4 n4 k4] 25))) := BU4.out.alloc BU4.out.size _
  all_goals go_wp2_with fail
  all_goals refine (awake_any _).mono ?_
  all_goals rintro e u9 ⟨rfl, b9⟩
  all_goals go_wp2_with fail
  all_goals go_ret
  all_goals exact ⟨rfl, bel_trans BB4.out b9⟩

/-! ### The row -/
theorem laidOut : laidOutB Try.prog = true := by kernel_rfl
set_option maxRecDepth 100000 in
theorem lifted (os : Os) (started : os.Started) (H : Type) (enc : TypeId × Value → H) :
    ReturnsInHanded {} Try.checked os 7 .any (Rows.ipsixTrailSpec.pre6 enc Try.prog Try.f7 Rows.ipsixTrailRow.domain false) (Rows.ipsixTrailSpec.post enc Try.prog Try.f7 false true false false) := by
  refine returnsInHanded_of_change (C := Try.checked) own started (by kernel_rfl) Try.func7
    (ChangeSpec.witness6 (enc := enc) (C := Try.checked) false ⟨#[], #[.string ⟨#[]⟩, .string ⟨#[]⟩, .int .i64 0], []⟩ 8 (by kernel_rfl) (by kernel_rfl) (by kernel_rfl) (by kernel_rfl)) ?_
  intro W base args ds gs before hval0 hW hcnd _
  have hval : ∀ (j : Nat) t v, Try.f7.params[j]? = some t → args[j]? = some v → Value.okWide Try.prog W .any base t v := hval0
  have hW' := hW
  obtain ⟨p, q, hA0, hV, rfl, hfz, hnd⟩ := hW
  have hA : DataW.TrodAll enc Try.prog W 0 (fun _ => true) true Try.f7.params.toList args.toList ds p := hA0
  rw [Try.params7] at hA hval
  obtain ⟨v0, vs0, d0, ds0, p0, q0, hargs, rfl, rfl, h0, r0⟩ := trodAll_cons hA
  obtain ⟨v1, vs1, d1, ds1, p1, q1, rfl, rfl, rfl, h1, r1⟩ := trodAll_cons r0
  obtain ⟨v2, vs2, d2, ds2, p2, q2, rfl, rfl, rfl, h2, r2⟩ := trodAll_cons r1
  obtain ⟨rfl, rfl, rfl⟩ := trodAll_nil r2
  obtain rfl : args = #[v0, v1, v2] := by cases args; simp_all
  obtain ⟨rfl, rfl⟩ := trodVars_none hV
  obtain ⟨a0, rfl, rfl, rfl, w0⟩ := open_string Try.underlying9 (hval 0 9 v0 rfl rfl) h0
  obtain ⟨a1, rfl, rfl, rfl, w1⟩ := open_string Try.underlying9 (hval 1 9 v1 rfl rfl) h1
  obtain ⟨a2, rfl, rfl, rfl, w2⟩ := open_int Try.underlying3 (hval 2 3 v2 rfl rfl) h2
  clear hA0 hval0
  refine (walk a0 a1 a2 W w0 w1 w2).mono fun e W' ⟨he, bel⟩ => ?_
  subst he
  exact ⟨_, rfl, _, _, _, [], _, [], hW', trodAll_mk1 (shut_bool Try.underlying4 _), (trodAll_cons_mk (shut_string Try.underlying9 w0) (trodAll_cons_mk (shut_string Try.underlying9 w1) (trodAll_cons_mk (shut_int Try.underlying3 w2) trodAll_mk0))), rfl, bel.frame _, fun h => by cases h⟩

theorem over : Rows.ipsixTrailRow.holds Try.pinned (OpenSpec.ofChange Rows.ipsixTrailSpec) :=
  OpenClaim.holds_of_wide 7 Try.f7 rfl rfl rfl rfl rfl rfl rfl ⟨rfl, rfl, rfl, rfl, rfl⟩ rfl rfl rfl rfl rfl (by kernel_rfl) Try.func7 (by kernel_rfl)
    (of_decide_eq_true (by kernel_rfl)) (by unfold Func.isWrapper; first | (rw [if_pos (by decide +kernel)]; kernel_rfl) | (rw [if_neg (by decide +kernel)]; exact ⟨rfl, rfl⟩))
    (fun os started H enc _ => lifted os started H enc)

theorem proved : Rows.IpsixTrailSaid := over
end Go.Proofs.Ytjbpbahaekbmlaa.ipsixTrail
namespace Go.Proofs.Ytjbpbahaekbmlaa
theorem ipsixTrail_holds : Rows.IpsixTrailSaid := ipsixTrail.proved
#print axioms ipsixTrail_holds
end Go.Proofs.Ytjbpbahaekbmlaa
