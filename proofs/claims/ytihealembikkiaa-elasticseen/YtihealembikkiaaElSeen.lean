
/-
  ElasticSeen, over the program's contracts: each flow that is listed came, at least as often as it is told; votes are not more than all that came.
-/
import Derived.Test.YtihealembikkiaaElAwake
import Derived.Test.YtihealembikkiaaElList
namespace Go.Proofs.Ytihealembikkiaa
open Go.RowKit Fm Bl Lt El L2 L10 L14 Go.Deep
set_option linter.unusedVariables false
set_option maxRecDepth 20000
set_option linter.unusedSimpArgs false

theorem seen_out (C : CtrE) (w : World) (S n room votes R c : Int) (lv : Value) (m : Nat) (Q : Nat → ByteArray) (most : Int) (uS : U S) (hn : I n) (hr : I room) (hv : I votes) (hR : I R) (hc : I c) (h : StrsAt w lv m Q) (hm : m ≤ 9223372036854775807) (hq : ∀ i, i < m → (Q i).size ≤ 9223372036854775807) (sh : shapeE n room votes R c = false) :
    Calls Try.prog 6 #[szv S n room votes R c, lv, .int .i64 most] w fun e w' => e = .returned (.bool true) ∧ Below w.heap.size w w' := by
  have BX : Hid (Below w.heap.size w (w.alloc (.cells #[.int .u64 S, .int .i64 n, .int .i64 room, .int .i64 votes, .int .i64 R, .int .i64 c] 60))) := bel_alloc _ _
  have FB := hidE fun u (b : Below w.heap.size w u) => fed_bad C u S n room votes R c lv m Q uS hn hr hv hR hc (h.keep (keep_of_below b)) hm hq sh
  have AW := hidE fun u => eawake_any C u
  clear h hn hr hv hR hc
  unfold szv at FB ⊢
  go_enter Try.func6, Try.ntmps6
  go_wp2_with fail
  refine (FB.out _ BX.out).mono ?_
  rintro e u2 ⟨rfl, b2⟩
  have B2 : Hid (Below w.heap.size w u2) := bel_trans BX.out b2
  clear b2 BX FB
  unfold elz
  go_wp2_with fail
  have B3 : Hid (Below w.heap.size w (u2.alloc (.cells #[.int .u64 0, .int .i64 0, .int .i64 0, .slice none 0 0, .int .u64 0, .int .i64 0, .slice none 0 0] 28))) := bel_trans B2.out (bel_alloc _ _)
  generalize u2.alloc (.cells #[.int .u64 0, .int .i64 0, .int .i64 0, .slice none 0 0, .int .u64 0, .int .i64 0, .slice none 0 0] 28) = u3 at B3 ⊢
  refine (AW.out u3).mono ?_
  rintro e u4 ⟨rfl, b4⟩
  go_wp2_with fail
  go_ret
  exact ⟨rfl, bel_trans B3.out b4⟩
theorem seen_long (C : CtrE) (w : World) (S votes : Int) (n room R c : Nat) (lv : Value) (m : Nat) (Q : Nat → ByteArray) (most : Int) (uS : U S) (h : StrsAt w lv m Q) (hm : m ≤ 9223372036854775807) (hq : ∀ i, i < m → (Q i).size ≤ 9223372036854775807) (sh : shapeE n room votes R c = true) (hs : ¬ (m ≤ 300 ∧ ∀ i, i < m → (Q i).size ≤ 100)) :
    Calls Try.prog 6 #[szv S n room votes R c, lv, .int .i64 most] w fun e w' => e = .returned (.bool true) ∧ Below w.heap.size w w' := by
  have BX : Hid (Below w.heap.size w (w.alloc (.cells #[.int .u64 S, .int .i64 (n : Int), .int .i64 (room : Int), .int .i64 votes, .int .i64 (R : Int), .int .i64 (c : Int)] 60))) := bel_alloc _ _
  have FB := hidE fun u (b : Below w.heap.size w u) => fed_long C u S votes n room R c lv m Q uS (h.keep (keep_of_below b)) hm hq sh hs
  have AW := hidE fun u => eawake_any C u
  clear h hs
  unfold szv at FB ⊢
  go_enter Try.func6, Try.ntmps6
  go_wp2_with fail
  refine (FB.out _ BX.out).mono ?_
  rintro e u2 ⟨a0, c0, a1, c1, rfl, b2⟩
  have B2 : Hid (Below w.heap.size w u2) := bel_trans BX.out b2
  clear b2 BX FB
  go_wp2_with fail
  have B3 : Hid (Below w.heap.size w (u2.alloc (.cells #[.int .u64 S, .int .i64 (room : Int), .int .i64 votes, .slice a0 n c0, .int .u64 (rowF S 1), .int .i64 255, .slice a1 R c1] 28))) := bel_trans B2.out (bel_alloc _ _)
  generalize u2.alloc (.cells #[.int .u64 S, .int .i64 (room : Int), .int .i64 votes, .slice a0 n c0, .int .u64 (rowF S 1), .int .i64 255, .slice a1 R c1] 28) = u3 at B3 ⊢
  refine (AW.out u3).mono ?_
  rintro e u4 ⟨rfl, b4⟩
  go_wp2_with fail
  go_ret
  exact ⟨rfl, bel_trans B3.out b4⟩
/-- What the walk keeps. -/
structure SnIn (w wr : World) (S votes : Int) (n room R c g : Nat) (a0 : Option Addr) (c0 : Nat) (a1 : Option Addr) (c1 : Nat) (lv : Value) (L : List Hv.Itm) : Prop where
  since : Below w.heap.size w wr
  sz : Blk wr w.heap.size 60 #[.int .u64 S, .int .i64 (n : Int), .int .i64 (room : Int), .int .i64 votes, .int .i64 (R : Int), .int .i64 (c : Int)]
  sk : Blk wr g 28 #[.int .u64 S, .int .i64 (room : Int), .int .i64 votes, .slice a0 n c0, .int .u64 (rowF S 1), .int .i64 255, .slice a1 R c1]
  its : ItsL wr lv L
theorem SnIn.next {w wr u : World} {S votes : Int} {n room R c g : Nat} {a0 : Option Addr} {c0 : Nat} {a1 : Option Addr} {c1 : Nat} {lv : Value} {L : List Hv.Itm} (h : SnIn w wr S votes n room R c g a0 c0 a1 c1 lv L) (b : Below wr.heap.size wr u) : SnIn w u S votes n room R c g a0 c0 a1 c1 lv L := ⟨bel_trans h.since b, h.sz.since b, h.sk.since b, h.its.keep (keep_of_below b)⟩
/-- And an item of it. -/
structure SnX (w wr : World) (S votes : Int) (n room R c g : Nat) (a0 : Option Addr) (c0 : Nat) (a1 : Option Addr) (c1 : Nat) (lv : Value) (L : List Hv.Itm) (gx : Nat) (s : ByteArray) (v : Int) : Prop where
  i : SnIn w wr S votes n room R c g a0 c0 a1 c1 lv L
  x : Blk wr gx 68 #[.string s, .int .i64 v]
theorem SnX.next {w wr u : World} {S votes : Int} {n room R c g : Nat} {a0 : Option Addr} {c0 : Nat} {a1 : Option Addr} {c1 : Nat} {lv : Value} {L : List Hv.Itm} {gx : Nat} {s : ByteArray} {v : Int} (h : SnX w wr S votes n room R c g a0 c0 a1 c1 lv L gx s v) (b : Below wr.heap.size wr u) : SnX w u S votes n room R c g a0 c0 a1 c1 lv L gx s v := ⟨h.i.next b, h.x.since b⟩
set_option maxHeartbeats 8000000 in
set_option maxRecDepth 20000 in
theorem seen_in (C : CtrE) (w : World) (S votes : Int) (n room R c : Nat) (lv : Value) (m : Nat) (Q : Nat → ByteArray) (most : Int) (uS : U S) (hmost : I most) (h : StrsAt w lv m Q) (hm : m ≤ 9223372036854775807) (hq : ∀ i, i < m → (Q i).size ≤ 9223372036854775807) (sh : shapeE n room votes R c = true) (hs : m ≤ 300 ∧ ∀ i, i < m → (Q i).size ≤ 100) :
    Calls Try.prog 6 #[szv S n room votes R c, lv, .int .i64 most] w fun e w' => e = .returned (.bool true) ∧ Below w.heap.size w w' := by
  have BX : Hid (Below w.heap.size w (w.alloc (.cells #[.int .u64 S, .int .i64 (n : Int), .int .i64 (room : Int), .int .i64 votes, .int .i64 (R : Int), .int .i64 (c : Int)] 60))) := bel_alloc _ _
  have KX : Hid (Blk (w.alloc (.cells #[.int .u64 S, .int .i64 (n : Int), .int .i64 (room : Int), .int .i64 votes, .int .i64 (R : Int), .int .i64 (c : Int)] 60)) w.heap.size 60 #[.int .u64 S, .int .i64 (n : Int), .int .i64 (room : Int), .int .i64 votes, .int .i64 (R : Int), .int .i64 (c : Int)]) := Blk.new _ _ _
  have FB := hidE fun u (b : Below w.heap.size w u) => fed_ok C u S votes n room R c lv m Q uS (h.keep (keep_of_below b)) hm hq sh hs
  have AW := hidE fun u => eawake_any C u
  have SA := hidE h
  have sh2 := sh
  rw [shapeE_iff] at sh2
  have R7 : R ≤ 7 := by omega
  have c1' : 1 ≤ c := by omega
  have c256 : c ≤ 256 := by omega
  have m300 := hs.1
  -- what is told
  have pl : ∀ k, placeN S k n 0 < n := fun k => placeN_lt S k n 0 (by omega)
  have inv := feed_inv (votes := votes) (pl := fun s => placeN S s n 0) (room := room) (q := Q) (N := n) (by omega) m (by omega) fun i _ => pl _
  have so := feed_short (N := n) (room := room) (votes := votes) (pl := fun s => placeN S s n 0) (q := Q) m hs.2
  have FF : fedF S votes n room R c Q m = elF S room votes (feedS n room votes (fun s => placeN S s n 0) Q m).bs R c (lightZ (rowF S 1) 255 c (feedS n room votes (fun s => placeN S s n 0) Q m).li) := rfl
  generalize feedS n room votes (fun s => placeN S s n 0) Q m = st at inv so FF
  have ok : OkP 255 R c (lightZ (rowF S 1) 255 c st.li) := lightZ_ok (ok_zero sh) fun x mm => (inv.light x mm).1
  have rt := inv_right inv sh (by omega) ok
  have ent : ∀ b, b ∈ st.bs → ∀ e, e ∈ b.es → 1 ≤ e.v ∧ e.v ≤ cntK Q (fun k => decide (k = e.k)) m := fun b mb e me => by
    obtain ⟨i, hi⟩ := List.mem_iff_getElem?.1 mb
    exact ⟨(inv.ents i b hi e me).1, inv.vote hi me⟩
  obtain ⟨L0, hL0⟩ : ∃ L, L = listBs 0 [] st.bs := ⟨_, rfl⟩
  obtain ⟨L1, hL1⟩ : ∃ L, L = listBs most [] st.bs := ⟨_, rfl⟩
  have m0 : Hid (∀ x, x ∈ L0 → 1 ≤ x.c ∧ x.c ≤ cntK Q (fun k => decide (k = x.k)) m) := fun x mx => by
    rw [hL0, listBs_mem] at mx
    rcases mx with mx | ⟨b, mb, e, me, _, rfl⟩
    · simp at mx
    · exact ent b mb e me
  have m1 : Hid (∀ x, x ∈ L1 → most ≤ x.c) := fun x mx => by
    rw [hL1, listBs_mem] at mx
    rcases mx with mx | ⟨b, mb, e, me, q, rfl⟩
    · simp at mx
    · exact q
  obtain ⟨s0, l0⟩ := listBs_sum (most := 0) (bs := st.bs) (l := []) fun b mb e me => by have := ent b mb e me; omega
  rw [← hL0] at s0 l0
  have cl := cntB_le (room := room) (bs := st.bs) fun b mb => by
    obtain ⟨i, hi⟩ := List.mem_iff_getElem?.1 mb
    exact (inv.room' i b hi).1
  rw [inv.len] at cl
  have l1 := listBs_len most st.bs []
  rw [← hL1] at l1
  have cs := inv.cons fun _ => true
  rw [cntK_all] at cs
  have nn := sumL_nn (P := fun _ => true) (l := st.li) fun x mm => (inv.light x mm).1
  have sm : Hid (0 ≤ sumC L0 ∧ sumC L0 ≤ m) := ⟨sumC_nn fun x mx => by have := m0.out x mx; omega, by rw [s0, sumC]; omega⟩
  obtain ⟨pr, hpr⟩ : ∃ pr, pr = n * room := ⟨_, rfl⟩
  have prI : (n : Int) * (room : Int) = (pr : Int) := by rw [hpr, Int.natCast_mul]
  have pr9 : pr ≤ 256 * 8 := by rw [hpr]; exact Nat.mul_le_mul (by omega) (by omega)
  rw [← hpr] at cl
  simp only [List.length_nil, Nat.zero_add] at l0 l1
  have len0 : L0.length ≤ pr := by omega
  have len1 : L1.length ≤ pr := by omega
  have LT : Hid (∀ u x, ElAt u x (fedF S votes n room R c Q m) → Calls Try.prog 13 #[x, .int .i64 0] u fun e w' => ∃ lv, e = .returned lv ∧ NewL u w' lv L0 ∧ Below u.heap.size u w') := fun u x hx => by
    rw [hL0]
    rw [FF] at hx
    exact C.list_ok u x _ 0 hx uS rt so (by constructor <;> omega)
  have LM : Hid (∀ u x, ElAt u x (fedF S votes n room R c Q m) → Calls Try.prog 13 #[x, .int .i64 most] u fun e w' => ∃ lv, e = .returned lv ∧ NewL u w' lv L1 ∧ Below u.heap.size u w') := fun u x hx => by
    rw [hL1]
    rw [FF] at hx
    exact C.list_ok u x _ most hx uS rt so hmost
  have RT : Hid (∀ u x, ElAt u x (fedF S votes n room R c Q m) → Calls Try.prog 15 #[x] u fun e w' => e = .returned (.bool true) ∧ Below u.heap.size u w') := fun u x hx => by
    rw [FF] at hx
    refine (C.right u x _ hx uS ?_).mono ?_
    · exact ⟨by show st.bs.length ≤ 300; rw [inv.len]; omega, ⟨by show R < 20; omega, fun i _ => by show c ≤ 300; omega⟩, fun i b hb => ⟨by have := (inv.room' i b hb).1; omega, so i b hb⟩⟩
    · intro e w' t
      obtain ⟨B, rfl, hB, bb⟩ := t; exact ⟨by rw [hB.2 rt], bb⟩
  have MN : Hid (∀ u s, StrsAt u lv m Q → Calls Try.prog 24 #[lv, .string s] u fun e w' => e = .returned (.int .i64 (cntK Q (fun k => decide (k = s)) m)) ∧ w' = u) := fun u s hu => emany_any u lv m Q s hu (by omega)
  clear hs sh sh2 inv so ok rt FF pl ent hL0 hL1 s0 l0 cl l1 cs nn hpr hmost
  obtain ⟨A, cap, lb, lo', rfl, hcap, hA, hL⟩ := h
  clear hA hL
  unfold szv at FB ⊢
  go_enter Try.func6, Try.ntmps6
  go_wp2_with fail
  refine (FB.out _ BX.out).mono ?_
  rintro e u2 ⟨a0, c0, a1, c1, rfl, hX, b2⟩
  have B2 : Hid (Below w.heap.size w u2) := bel_trans BX.out b2
  have K2 : Hid (Blk u2 w.heap.size 60 #[.int .u64 S, .int .i64 (n : Int), .int .i64 (room : Int), .int .i64 votes, .int .i64 (R : Int), .int .i64 (c : Int)]) := KX.out.since b2
  have X2 := hidE (hX.at)
  clear b2 BX FB KX hX
  go_wp2_with fail
  have B3 : Hid (Below w.heap.size w (u2.alloc (.cells #[.int .u64 S, .int .i64 (room : Int), .int .i64 votes, .slice a0 n c0, .int .u64 (rowF S 1), .int .i64 255, .slice a1 R c1] 28))) := bel_trans B2.out (bel_alloc _ _)
  have Z3 : Hid (Blk (u2.alloc (.cells #[.int .u64 S, .int .i64 (room : Int), .int .i64 votes, .slice a0 n c0, .int .u64 (rowF S 1), .int .i64 255, .slice a1 R c1] 28)) w.heap.size 60 #[.int .u64 S, .int .i64 (n : Int), .int .i64 (room : Int), .int .i64 votes, .int .i64 (R : Int), .int .i64 (c : Int)]) := K2.out.alloc _
  have Y3 : Hid (Blk (u2.alloc (.cells #[.int .u64 S, .int .i64 (room : Int), .int .i64 votes, .slice a0 n c0, .int .u64 (rowF S 1), .int .i64 255, .slice a1 R c1] 28)) u2.heap.size 28 #[.int .u64 S, .int .i64 (room : Int), .int .i64 votes, .slice a0 n c0, .int .u64 (rowF S 1), .int .i64 255, .slice a1 R c1]) := Blk.new _ _ _
  have X3 : Hid (ElAt (u2.alloc (.cells #[.int .u64 S, .int .i64 (room : Int), .int .i64 votes, .slice a0 n c0, .int .u64 (rowF S 1), .int .i64 255, .slice a1 R c1] 28)) (.agg #[.int .u64 S, .int .i64 (room : Int), .int .i64 votes, .slice a0 n c0, .int .u64 (rowF S 1), .int .i64 255, .slice a1 R c1]) (fedF S votes n room R c Q m)) := X2.out.keep (keep_of_below (bel_alloc _ _))
  clear B2 K2 X2
  generalize u2.alloc (.cells #[.int .u64 S, .int .i64 (room : Int), .int .i64 votes, .slice a0 n c0, .int .u64 (rowF S 1), .int .i64 255, .slice a1 R c1] 28) = u3 at B3 Z3 Y3 X3 ⊢
  generalize u2.heap.size = g at Y3 ⊢
  refine (LT.out u3 _ X3.out).mono ?_
  rintro e u4 ⟨lv0, rfl, nl, b4⟩
  have XX : Hid (∀ u, Below u4.heap.size u4 u → ElAt u (.agg #[.int .u64 S, .int .i64 (room : Int), .int .i64 votes, .slice a0 n c0, .int .u64 (rowF S 1), .int .i64 255, .slice a1 R c1]) (fedF S votes n room R c Q m)) := fun u b => X3.out.keep (keep_of_below (bel_trans b4 b))
  have LE0 : Hid ((L0.length : Int) ≤ (pr : Int)) := by show (L0.length : Int) ≤ pr; omega
  have DE : Hid (decide ((L0.length : Int) ≤ IntKind.i64.wrap (pr : Int)) = true) := by
    have e : IntKind.i64.wrap (pr : Int) = pr := by rw [IntKind.wrap_i64]; omega
    show decide _ = true
    rw [e]
    exact decide_eq_true LE0.out
  have its := nl.its
  obtain ⟨A0, cp0, lb0, o0, hlv0, hc0, h30, h40⟩ := its
  have IN : Hid (SnIn w u4 S votes n room R c g a0 c0 a1 c1 lv0 L0) := ⟨bel_trans B3.out b4, Z3.out.since b4, Y3.out.since b4, nl.its⟩
  have SA4 : Hid (∀ u, Below w.heap.size w u → StrsAt u (.slice A m cap) m Q) := fun u b => SA.out.keep (keep_of_below b)
  obtain ⟨N, hN⟩ : ∃ N, N = L0.length := ⟨_, rfl⟩
  rw [← hN] at hlv0 h30 hc0 len0
  have HN := hidE hN
  have HA0 := hidE h30
  have HL0 := hidE h40
  subst hlv0
  have B4 := hidE (Below.refl u4.heap.size u4)
  clear b4 nl X3 B3 Z3 Y3 SA h30 h40 hN
  go_wp2_with fail
  go_loopg [9, 26] N (fun gk av i wr => ∃ (k : Nat) (all : Int), (gk = N - k ∧ k ≤ N ∧ all = sumC (L0.take k) ∧ SnIn w wr S votes n room R c g a0 c0 a1 c1 (.slice A0 N cp0) L0 ∧ Below u4.heap.size u4 wr) ∧ av = .int .i64 all ∧ i = .int .i64 (k : Int))
  case atStart => exact ⟨0, 0, ⟨rfl, by omega, by simp [sumC], IN.out, Below.refl _ _⟩, rfl, rfl⟩
  case round =>
    clear IN
    obtain ⟨k, all, ⟨hgk, hk, hall, hI, hB⟩, rfl, rfl⟩ := hrel
    have IK := hidE hI
    have HB := hidE hB
    have HG := hidE hgk
    have HS := hidE hall
    have st := sumC_take (l := L0) (fun x mx => by have := m0.out x mx; omega) k
    have sm2 := sm.out
    rw [← hall] at st
    clear hI hgk hall hB
    by_cases kz : k < N
    · have bk : (k : Int) < (N : Int) := by omega
      have bk0 : (0 : Int) ≤ (k : Int) := by omega
      obtain rfl := HA0.out (by omega)
      obtain ⟨x, hx⟩ : ∃ x, L0[k]? = some x := ⟨_, List.getElem?_eq_getElem (by rw [← HN.out]; exact kz)⟩
      obtain ⟨q1, q2⟩ := HL0.out k x hx
      have mx := m0.out x (List.mem_of_getElem? hx)
      have nx := sumC_next hx
      have st2 := sumC_take (l := L0) (fun x mx => by have := m0.out x mx; omega) (k + 1)
      rw [nx, ← HS.out] at st2
      obtain ⟨s, v⟩ := x
      simp only at q1 q2 mx nx st2
      have q1 : wr.cell? ⟨lb0, o0 + k * 2, none⟩ = some (.string s) := keep_of_below HB.out _ _ q1
      have q2 : wr.cell? ⟨lb0, o0 + k * 2 + 1, none⟩ = some (.int .i64 v) := keep_of_below HB.out _ _ q2
      obtain ⟨cc, hcc⟩ : ∃ cc, cc = cntK Q (fun k => decide (k = s)) m := ⟨_, rfl⟩
      have M1 : Hid (∀ u, Below w.heap.size w u → Calls Try.prog 24 #[.slice A m cap, .string s] u fun e w' => e = .returned (.int .i64 cc) ∧ w' = u) := fun u b => by rw [hcc]; exact MN.out u s (SA4.out u b)
      rw [← hcc] at mx
      have cc1 : cc ≤ 300 := by have := cntK_le Q (fun k => decide (k = s)) m; rw [hcc]; omega
      have n1 : ¬ cc < v := by omega
      have n2 : ¬ v < 1 := by omega
      have e1 : decide (cc < v) = false := decide_eq_false n1
      have e2 : decide (v < 1) = false := decide_eq_false n2
      have NX : Hid (all + v = sumC (L0.take (k + 1))) := by show all + v = _; rw [nx, HS.out]
      clear hcc hx nx HS
      go_wp2_with fail
      clear q1 q2
      refine letterQ ?_
      intro QQ hQQ
      have Z0 : Hid (SnX w (wr.alloc (.cells #[.string s, .int .i64 v] 68)).drew S votes n room R c g a0 c0 a1 c1 (.slice (some ⟨lb0, o0, none⟩) N cp0) L0 wr.heap.size s v) := SnX.next (wr := wr.alloc (.cells #[.string s, .int .i64 v] 68)) ⟨IK.out.next (bel_alloc _ _), Blk.new _ _ _⟩ (Below.refl _ _).drew
      have HB2 : Hid (Below u4.heap.size u4 (wr.alloc (.cells #[.string s, .int .i64 v] 68)).drew) := bel_trans HB.out (bel_trans (bel_alloc _ _) (Below.refl _ _).drew)
      refine wp_region_held_drew (S := fun w2 => SnX w w2 S votes n room R c g a0 c0 a1 c1 (.slice (some ⟨lb0, o0, none⟩) N cp0) L0 wr.heap.size s v) (by kernel_rfl) Z0.out (fun hHeld => ?_)
      clear hHeld
      generalize (wr.alloc (.cells #[.string s, .int .i64 v] 68)).drew = q0 at Z0 HB2 ⊢
      generalize wr.heap.size = gx at Z0 ⊢
      refine wpAnyH_take (i := 0) (v := ?_) rfl (by kernel_rfl) (by kernel_rfl) (by kernel_rfl) (fun _ _ _ h => h) (Or.inl ⟨by rfl, ?_⟩) Z0.out ?_
      rotate_left
      · intro wq hSw; go_simp; first | done | with_reducible rfl
      simp only [List.getElem_toArray, List.getElem_cons_zero, Act.put, List.setIfInBounds_toArray, List.set_cons_zero, List.set_cons_succ]
      refine wpAnyH_take (i := 1) (v := ?_) rfl (by kernel_rfl) (by kernel_rfl) (by kernel_rfl) (fun _ _ _ h => h) (Or.inl ⟨by rfl, ?_⟩) Z0.out ?_
      rotate_left
      · intro wq hSw; go_simp; first | done | with_reducible rfl
      simp only [List.getElem_toArray, List.getElem_cons_zero, List.getElem_cons_succ, Act.put, List.setIfInBounds_toArray, List.set_cons_zero, List.set_cons_succ]
      refine wpAnyH_take (i := 2) (v := ?_) rfl (by kernel_rfl) (by kernel_rfl) (by kernel_rfl) (fun _ _ _ h => h) (Or.inl ⟨by rfl, ?_⟩) Z0.out ?_
      rotate_left
      · intro wq hSw; have cl0 := hSw.x.cell 0; go_simp; first | done | with_reducible rfl
      simp only [List.getElem_toArray, List.getElem_cons_zero, List.getElem_cons_succ, Act.put, List.setIfInBounds_toArray, List.set_cons_zero, List.set_cons_succ]
      refine wpAnyH_take (i := 4) (v := ?_) rfl (by kernel_rfl) (by kernel_rfl) (by kernel_rfl) (fun _ _ _ h => h) (Or.inl ⟨by rfl, ?_⟩) Z0.out ?_
      rotate_left
      · intro wq hSw; go_simp; first | done | with_reducible rfl
      simp only [List.getElem_toArray, List.getElem_cons_zero, List.getElem_cons_succ, Act.put, List.setIfInBounds_toArray, List.set_cons_zero, List.set_cons_succ]
      refine wpAnyH_take (i := 5) (v := ?_) rfl (by kernel_rfl) (by kernel_rfl) (by kernel_rfl) (fun _ _ _ h => h) (Or.inl ⟨by rfl, ?_⟩) Z0.out ?_
      rotate_left
      · intro wq hSw; have cl0 := hSw.x.cell 1; go_simp; first | done | with_reducible rfl
      simp only [List.getElem_toArray, List.getElem_cons_zero, List.getElem_cons_succ, Act.put, List.setIfInBounds_toArray, List.set_cons_zero, List.set_cons_succ]
      refine wpAnyH_ready (rs := [3]) (by kernel_rfl) (by simp) ?_
      refine AllReadyH.cons rfl (fun K0 hK0 => ?_) ?_
      rotate_left
      · exact AllReadyH.nil
      refine step_func 24 #[.slice A m cap, .string s] (by rfl) rfl (by simp [Act.eval]) (fun _ _ => by kernel_rfl) ?_
      refine (M1.out _ Z0.out.i.since).mono ?_
      rintro e v1 ⟨rfl, rfl⟩
      refine ⟨_, rfl, ?_⟩
      refine hK0.out _ _ (by exact Z0.out) (fun hHeld => ?_)
      clear hK0 K0 hHeld
      simp only [Act.put]
      refine wpAnyH_take (i := 6) (v := ?_) rfl (by kernel_rfl) (by kernel_rfl) (by kernel_rfl) (fun _ _ _ h => h) (Or.inl ⟨by rfl, ?_⟩) Z0.out ?_
      rotate_left
      · intro wq hSw; go_simp; first | done | with_reducible rfl
      simp only [List.getElem_toArray, List.getElem_cons_zero, List.getElem_cons_succ, Act.put, List.setIfInBounds_toArray, List.set_cons_zero, List.set_cons_succ]
      refine wpAnyH_take (i := 7) (v := ?_) rfl (by kernel_rfl) (by kernel_rfl) (by kernel_rfl) (fun _ _ _ h => h) (Or.inl ⟨by rfl, ?_⟩) Z0.out ?_
      rotate_left
      · intro wq hSw; go_simp; first | done | with_reducible rfl
      simp only [List.getElem_toArray, List.getElem_cons_zero, List.getElem_cons_succ, Act.put, List.setIfInBounds_toArray, List.set_cons_zero, List.set_cons_succ]
      refine wpAnyH_take (i := 8) (v := ?_) rfl (by kernel_rfl) (by kernel_rfl) (by kernel_rfl) (fun _ _ _ h => h) (Or.inl ⟨by rfl, ?_⟩) Z0.out ?_
      rotate_left
      · intro wq hSw; go_simp; first | done | with_reducible rfl
      simp only [List.getElem_toArray, List.getElem_cons_zero, List.getElem_cons_succ, Act.put, List.setIfInBounds_toArray, List.set_cons_zero, List.set_cons_succ]
      refine wpAnyH_take (i := 9) (v := ?_) rfl (by kernel_rfl) (by kernel_rfl) (by kernel_rfl) (fun _ _ _ h => h) (Or.inl ⟨by rfl, ?_⟩) Z0.out ?_
      rotate_left
      · intro wq hSw; have cl0 := hSw.x.cell 1; go_simp; first | done | with_reducible rfl
      simp only [List.getElem_toArray, List.getElem_cons_zero, List.getElem_cons_succ, Act.put, List.setIfInBounds_toArray, List.set_cons_zero, List.set_cons_succ]
      refine wpAnyH_take (i := 10) (v := ?_) rfl (by kernel_rfl) (by kernel_rfl) (by kernel_rfl) (fun _ _ _ h => h) (Or.inl ⟨by rfl, ?_⟩) Z0.out ?_
      rotate_left
      · intro wq hSw; go_simp; first | done | with_reducible rfl
      simp only [List.getElem_toArray, List.getElem_cons_zero, List.getElem_cons_succ, Act.put, List.setIfInBounds_toArray, List.set_cons_zero, List.set_cons_succ]
      refine wpAnyH_take (i := 11) (v := ?_) rfl (by kernel_rfl) (by kernel_rfl) (by kernel_rfl) (fun _ _ _ h => h) (Or.inl ⟨by rfl, ?_⟩) Z0.out ?_
      rotate_left
      · intro wq hSw; go_simp; first | done | with_reducible rfl
      simp only [List.getElem_toArray, List.getElem_cons_zero, List.getElem_cons_succ, Act.put, List.setIfInBounds_toArray, List.set_cons_zero, List.set_cons_succ]
      refine wpAnyH_done (by kernel_rfl) ?_ _
      refine NoPanic.normal ?_
      refine hQQ.out _ _ ?_
      clear hQQ
      have p2 : v1.cell? ⟨gx, 1, none⟩ = some (.int .i64 v) := Z0.out.x.cell 1
      go_wp2_with fail
      clear p2
      go_roundg (N - (k + 1))
      case measure => have := HG.out; omega
      case rel => exact ⟨k + 1, all + v, ⟨rfl, by omega, NX.out, Z0.out.i, HB2.out⟩, by go_num, by go_num⟩
    · have bk : ¬ (k : Int) < (N : Int) := by omega
      have bs : ¬ all > (m : Int) := by omega
      have k70 : wr.cell? ⟨g, 0, none⟩ = some (.int .u64 S) := IK.out.sk.cell 0
      have k71 : wr.cell? ⟨g, 1, none⟩ = some (.int .i64 (room : Int)) := IK.out.sk.cell 1
      have k72 : wr.cell? ⟨g, 2, none⟩ = some (.int .i64 votes) := IK.out.sk.cell 2
      have k73 : wr.cell? ⟨g, 3, none⟩ = some (.slice a0 n c0) := IK.out.sk.cell 3
      have k74 : wr.cell? ⟨g, 4, none⟩ = some (.int .u64 (rowF S 1)) := IK.out.sk.cell 4
      have k75 : wr.cell? ⟨g, 5, none⟩ = some (.int .i64 255) := IK.out.sk.cell 5
      have k76 : wr.cell? ⟨g, 6, none⟩ = some (.slice a1 R c1) := IK.out.sk.cell 6
      go_wp2_with fail
      clear k70 k71 k72 k73 k74 k75 k76
      refine (LM.out wr _ (XX.out wr HB.out)).mono ?_
      rintro e u6 ⟨lv1, rfl, nl, b6⟩
      have its := nl.its
      obtain ⟨A1, cp1, lb1, o1, hlv1, hc1, h31, h41⟩ := its
      have IN : Hid (SnIn w u6 S votes n room R c g a0 c0 a1 c1 lv1 L1) := ⟨bel_trans IK.out.since b6, IK.out.sz.since b6, IK.out.sk.since b6, nl.its⟩
      have HB6 : Hid (Below u4.heap.size u4 u6) := bel_trans HB.out b6
      obtain ⟨M, hM⟩ : ∃ M, M = L1.length := ⟨_, rfl⟩
      rw [← hM] at hlv1 h31 hc1 len1
      have HM := hidE hM
      have HA1 := hidE h31
      have HL1 := hidE h41
      subst hlv1
      clear b6 nl h31 h41 hM IK HB HG HS st sm2 MN
      go_wp2_with fail
      go_loopg [55] M (fun gk i wr => ∃ (k : Nat), (gk = M - k ∧ k ≤ M ∧ SnIn w wr S votes n room R c g a0 c0 a1 c1 (.slice A1 M cp1) L1 ∧ Below u6.heap.size u6 wr) ∧ i = .int .i64 (k : Int))
      case atStart => exact ⟨0, ⟨rfl, by omega, IN.out, Below.refl _ _⟩, rfl⟩
      case round =>
        clear IN
        obtain ⟨k2, ⟨hgk, hk2, hI, hB⟩, rfl⟩ := hrel
        have IK := hidE hI
        have HB := hidE hB
        have HG := hidE hgk
        clear hI hgk hB
        by_cases kz2 : k2 < M
        · have bk : (k2 : Int) < (M : Int) := by omega
          have bk0 : (0 : Int) ≤ (k2 : Int) := by omega
          obtain rfl := HA1.out (by omega)
          obtain ⟨x, hx⟩ : ∃ x, L1[k2]? = some x := ⟨_, List.getElem?_eq_getElem (by rw [← HM.out]; exact kz2)⟩
          obtain ⟨q1, q2⟩ := HL1.out k2 x hx
          have mx := m1.out x (List.mem_of_getElem? hx)
          obtain ⟨s, v⟩ := x
          simp only at q1 q2 mx
          have q1 : wr.cell? ⟨lb1, o1 + k2 * 2, none⟩ = some (.string s) := keep_of_below HB.out _ _ q1
          have q2 : wr.cell? ⟨lb1, o1 + k2 * 2 + 1, none⟩ = some (.int .i64 v) := keep_of_below HB.out _ _ q2
          have n1 : ¬ v < most := by omega
          go_wp2_with fail
          go_roundg (M - (k2 + 1))
          case measure => have := HG.out; omega
          case rel => exact ⟨k2 + 1, ⟨rfl, by omega, IK.out.next (bel_alloc _ _), bel_trans HB.out (bel_alloc _ _)⟩, by go_num⟩
        · have bk : ¬ (k2 : Int) < (M : Int) := by omega
          go_wp2_with fail
          refine letterQ ?_
          intro QQ hQQ
          have Z0 : Hid (SnIn w wr.drew S votes n room R c g a0 c0 a1 c1 (.slice A1 M cp1) L1) := IK.out.next (Below.refl _ _).drew
          have XZ : Hid (ElAt wr.drew (.agg #[.int .u64 S, .int .i64 (room : Int), .int .i64 votes, .slice a0 n c0, .int .u64 (rowF S 1), .int .i64 255, .slice a1 R c1]) (fedF S votes n room R c Q m)) := XX.out _ (bel_trans HB6.out (bel_trans HB.out (Below.refl _ _).drew))
          refine wp_region_held_drew (S := fun w2 => SnIn w w2 S votes n room R c g a0 c0 a1 c1 (.slice A1 M cp1) L1) (by kernel_rfl) Z0.out (fun hHeld => ?_)
          clear hHeld
          generalize wr.drew = q0 at Z0 XZ ⊢
          refine wpAnyH_take (i := 0) (v := ?_) rfl (by kernel_rfl) (by kernel_rfl) (by kernel_rfl) (fun _ _ _ h => h) (Or.inl ⟨by rfl, ?_⟩) Z0.out ?_
          rotate_left
          · intro wq hSw; have cl0 := hSw.sk.cell 0; have cl1 := hSw.sk.cell 1; have cl2 := hSw.sk.cell 2; have cl3 := hSw.sk.cell 3; have cl4 := hSw.sk.cell 4; have cl5 := hSw.sk.cell 5; have cl6 := hSw.sk.cell 6; go_simp; first | done | with_reducible rfl
          simp only [List.getElem_toArray, List.getElem_cons_zero, Act.put, List.setIfInBounds_toArray, List.set_cons_zero, List.set_cons_succ]
          refine wpAnyH_take (i := 3) (v := ?_) rfl (by kernel_rfl) (by kernel_rfl) (by kernel_rfl) (fun _ _ _ h => h) (Or.inl ⟨by rfl, ?_⟩) Z0.out ?_
          rotate_left
          · intro wq hSw; go_simp; first | done | with_reducible rfl
          simp only [List.getElem_toArray, List.getElem_cons_zero, List.getElem_cons_succ, Act.put, List.setIfInBounds_toArray, List.set_cons_zero, List.set_cons_succ]
          refine wpAnyH_take (i := 4) (v := ?_) rfl (by kernel_rfl) (by kernel_rfl) (by kernel_rfl) (fun _ _ _ h => h) (Or.inl ⟨by rfl, ?_⟩) Z0.out ?_
          rotate_left
          · intro wq hSw; have cl0 := hSw.sz.cell 1; go_simp; first | done | with_reducible rfl
          simp only [List.getElem_toArray, List.getElem_cons_zero, List.getElem_cons_succ, Act.put, List.setIfInBounds_toArray, List.set_cons_zero, List.set_cons_succ]
          refine wpAnyH_take (i := 5) (v := ?_) rfl (by kernel_rfl) (by kernel_rfl) (by kernel_rfl) (fun _ _ _ h => h) (Or.inl ⟨by rfl, ?_⟩) Z0.out ?_
          rotate_left
          · intro wq hSw; go_simp; first | done | with_reducible rfl
          simp only [List.getElem_toArray, List.getElem_cons_zero, List.getElem_cons_succ, Act.put, List.setIfInBounds_toArray, List.set_cons_zero, List.set_cons_succ]
          refine wpAnyH_take (i := 6) (v := ?_) rfl (by kernel_rfl) (by kernel_rfl) (by kernel_rfl) (fun _ _ _ h => h) (Or.inl ⟨by rfl, ?_⟩) Z0.out ?_
          rotate_left
          · intro wq hSw; have cl0 := hSw.sz.cell 2; go_simp; first | done | with_reducible rfl
          simp only [List.getElem_toArray, List.getElem_cons_zero, List.getElem_cons_succ, Act.put, List.setIfInBounds_toArray, List.set_cons_zero, List.set_cons_succ]
          refine wpAnyH_take (i := 7) (v := ?_) rfl (by kernel_rfl) (by kernel_rfl) (by kernel_rfl) (fun _ _ _ h => h) (Or.inl ⟨by rfl, ?_⟩) Z0.out ?_
          rotate_left
          · intro wq hSw; have cl0 := prI; go_simp; first | done | with_reducible rfl
          simp only [List.getElem_toArray, List.getElem_cons_zero, List.getElem_cons_succ, Act.put, List.setIfInBounds_toArray, List.set_cons_zero, List.set_cons_succ]
          refine wpAnyH_ready (rs := [1]) (by kernel_rfl) (by simp) ?_
          refine AllReadyH.cons rfl (fun K0 hK0 => ?_) ?_
          rotate_left
          · exact AllReadyH.nil
          refine step_func 13 #[.agg #[.int .u64 S, .int .i64 (room : Int), .int .i64 votes, .slice a0 n c0, .int .u64 (rowF S 1), .int .i64 255, .slice a1 R c1], .int .i64 0] (by rfl) rfl (by simp [Act.eval]) (fun _ _ => by kernel_rfl) ?_
          refine (LT.out _ _ XZ.out).mono ?_
          rintro e v1 ⟨lv2, rfl, nl2, b1⟩
          obtain ⟨A2, cp2, lb2, o2, rfl, hc2, h32, h42⟩ := nl2.its
          have Z1 := hidE (Z0.out.next b1)
          have XZ1 := hidE (XZ.out.keep (keep_of_below b1))
          clear b1 nl2 h32 h42
          refine ⟨_, rfl, ?_⟩
          refine hK0.out _ _ (by exact Z1.out) (fun hHeld => ?_)
          clear hK0 K0 hHeld
          simp only [Act.put, List.setIfInBounds_toArray]
          refine wpAnyH_take (i := 2) (v := ?_) rfl (by kernel_rfl) (by kernel_rfl) (by kernel_rfl) (fun _ _ _ h => h) (Or.inl ⟨by rfl, ?_⟩) Z1.out ?_
          rotate_left
          · intro wq hSw; go_simp; first | done | with_reducible rfl
          simp only [List.getElem_toArray, List.getElem_cons_zero, List.getElem_cons_succ, Act.put, List.setIfInBounds_toArray, List.set_cons_zero, List.set_cons_succ]
          refine wpAnyH_take (i := 8) (v := ?_) rfl (by kernel_rfl) (by kernel_rfl) (by kernel_rfl) (fun _ _ _ h => h) (Or.inl ⟨by rfl, ?_⟩) Z1.out ?_
          rotate_left
          · intro wq hSw; go_simp; first | done | with_reducible rfl
          simp only [List.getElem_toArray, List.getElem_cons_zero, List.getElem_cons_succ, Act.put, List.setIfInBounds_toArray, List.set_cons_zero, List.set_cons_succ]
          rw [DE.out]
          refine wpAnyH_take (i := 9) (v := ?_) rfl (by kernel_rfl) (by kernel_rfl) (by kernel_rfl) (fun _ _ _ h => h) (Or.inl ⟨by rfl, ?_⟩) Z1.out ?_
          rotate_left
          · intro wq hSw; go_simp; first | done | with_reducible rfl
          simp only [List.getElem_toArray, List.getElem_cons_zero, List.getElem_cons_succ, Act.put, List.setIfInBounds_toArray, List.set_cons_zero, List.set_cons_succ]
          refine wpAnyH_take (i := 10) (v := ?_) rfl (by kernel_rfl) (by kernel_rfl) (by kernel_rfl) (fun _ _ _ h => h) (Or.inl ⟨by rfl, ?_⟩) Z1.out ?_
          rotate_left
          · intro wq hSw; have cl0 := hSw.sk.cell 0; have cl1 := hSw.sk.cell 1; have cl2 := hSw.sk.cell 2; have cl3 := hSw.sk.cell 3; have cl4 := hSw.sk.cell 4; have cl5 := hSw.sk.cell 5; have cl6 := hSw.sk.cell 6; go_simp; first | done | with_reducible rfl
          simp only [List.getElem_toArray, List.getElem_cons_zero, List.getElem_cons_succ, Act.put, List.setIfInBounds_toArray, List.set_cons_zero, List.set_cons_succ]
          refine wpAnyH_ready (rs := [11]) (by kernel_rfl) (by simp) ?_
          refine AllReadyH.cons rfl (fun K0 hK0 => ?_) ?_
          rotate_left
          · exact AllReadyH.nil
          refine step_func 15 #[.agg #[.int .u64 S, .int .i64 (room : Int), .int .i64 votes, .slice a0 n c0, .int .u64 (rowF S 1), .int .i64 255, .slice a1 R c1]] (by rfl) rfl (by simp [Act.eval]) (fun _ _ => by kernel_rfl) ?_
          refine (RT.out _ _ XZ1.out).mono ?_
          rintro e v2 ⟨rfl, b2⟩
          have Z2 := hidE (Z1.out.next b2)
          clear b2
          refine ⟨_, rfl, ?_⟩
          refine hK0.out _ _ (by exact Z2.out) (fun hHeld => ?_)
          clear hK0 K0 hHeld
          simp only [Act.put, List.setIfInBounds_toArray]
          refine wpAnyH_take (i := 12) (v := ?_) rfl (by kernel_rfl) (by kernel_rfl) (by kernel_rfl) (fun _ _ _ h => h) (Or.inl ⟨by rfl, ?_⟩) Z2.out ?_
          rotate_left
          · intro wq hSw; go_simp; first | done | with_reducible rfl
          simp only [List.getElem_toArray, List.getElem_cons_zero, List.getElem_cons_succ, Act.put, List.setIfInBounds_toArray, List.set_cons_zero, List.set_cons_succ]
          refine wpAnyH_take (i := 13) (v := ?_) rfl (by kernel_rfl) (by kernel_rfl) (by kernel_rfl) (fun _ _ _ h => h) (Or.inl ⟨by rfl, ?_⟩) Z2.out ?_
          rotate_left
          · intro wq hSw; go_simp; first | done | with_reducible rfl
          simp only [List.getElem_toArray, List.getElem_cons_zero, List.getElem_cons_succ, Act.put, List.setIfInBounds_toArray, List.set_cons_zero, List.set_cons_succ]
          refine wpAnyH_ready (rs := [14]) (by kernel_rfl) (by simp) ?_
          refine AllReadyH.cons rfl (fun K0 hK0 => ?_) ?_
          rotate_left
          · exact AllReadyH.nil
          refine step_func 10 #[] (by rfl) rfl (by simp [Act.eval]) (fun _ _ => by kernel_rfl) ?_
          refine (AW.out _).mono ?_
          rintro e v3 ⟨rfl, b3⟩
          have Z3 := hidE (Z2.out.next b3)
          clear b3
          refine ⟨_, rfl, ?_⟩
          refine hK0.out _ _ (by exact Z3.out) (fun hHeld => ?_)
          clear hK0 K0 hHeld
          simp only [Act.put, List.setIfInBounds_toArray]
          refine wpAnyH_take (i := 15) (v := ?_) rfl (by kernel_rfl) (by kernel_rfl) (by kernel_rfl) (fun _ _ _ h => h) (Or.inl ⟨by rfl, ?_⟩) Z3.out ?_
          rotate_left
          · intro wq hSw; go_simp; first | done | with_reducible rfl
          simp only [List.getElem_toArray, List.getElem_cons_zero, List.getElem_cons_succ, Act.put, List.setIfInBounds_toArray, List.set_cons_zero, List.set_cons_succ]
          refine wpAnyH_take (i := 16) (v := ?_) rfl (by kernel_rfl) (by kernel_rfl) (by kernel_rfl) (fun _ _ _ h => h) (Or.inl ⟨by rfl, ?_⟩) Z3.out ?_
          rotate_left
          · intro wq hSw; go_simp; first | done | with_reducible rfl
          simp only [List.getElem_toArray, List.getElem_cons_zero, List.getElem_cons_succ, Act.put, List.setIfInBounds_toArray, List.set_cons_zero, List.set_cons_succ]
          refine wpAnyH_done (by kernel_rfl) ?_ _
          refine NoPanic.normal ?_
          refine hQQ.out _ _ ?_
          clear hQQ
          go_wp2_with fail
          go_ret
          exact ⟨rfl, Z3.out.since⟩
end Go.Proofs.Ytihealembikkiaa
