
/-
  Get of layer 15 (elastic): what the code answers.
-/
import Derived.Test.YtihealembikkiaaElRightC
import Derived.Test.YtihealembikkiaaElCome3
namespace Go.Proofs.Ytihealembikkiaa
open Go.RowKit Fm Bl Lt El L2 L10 L14 Go.Deep Go.Shelf
set_option linter.unusedVariables false
set_option maxRecDepth 20000
set_option linter.unusedSimpArgs false

set_option maxHeartbeats 1600000 in
theorem egetC_bad (w : World) (x : Value) (F : Elk) (s : ByteArray) (h : ElAt w x F) (uS : U F.S) (sm : SmallE F) (rt : ¬ RightE F) : Calls Try.prog 12 #[x, .string s] w fun e w' => e = .returned (.tuple #[.int .i64 0, .int .i64 0, .bool false, .bool false]) ∧ Below w.heap.size w w' := by
  have RC := hidE fun u (b : Below w.heap.size w u) => erightC_any u x F (h.keep (keep_of_below b)) uS sm
  obtain ⟨a0, c0, a1, c1, rfl⟩ := h.form
  have RT := hidE rt
  clear h sm rt
  obtain ⟨S, room, votes, bs, LS, LM, R, L, Z⟩ := F
  simp only at *
  generalize bs.length = n at *
  have BX : Hid (Below w.heap.size w (w.alloc (.cells #[.int .u64 S, .int .i64 room, .int .i64 votes, .slice a0 n c0, .int .u64 LS, .int .i64 LM, .slice a1 R c1] 28))) := bel_alloc _ _
  go_enter Try.func12, Try.ntmps12
  go_wp2_with fail
  refine (RC.out _ BX.out).mono ?_
  rintro e u1 ⟨B, rfl, hB, b1⟩
  obtain rfl : B = false := by cases B with | false => rfl | true => exact absurd (hB.1 rfl) RT.out
  have B1 := hidE (bel_trans BX.out b1)
  clear b1 hB
  go_wp2_with fail
  go_returns
  exact ⟨rfl, B1.out⟩
set_option maxHeartbeats 3200000 in
theorem egetC_core (w : World) (S room votes LS LM : Int) (A LA : Option Addr) (n cap R lcap : Nat) (s k : ByteArray) (v : Int) (f : Bool) (gx : Int) (e0 dl : Bool) (RC : Hid (∀ u, Below w.heap.size w u → Calls Try.prog 15 #[.agg #[.int .u64 S, .int .i64 room, .int .i64 votes, .slice A n cap, .int .u64 LS, .int .i64 LM, .slice LA R lcap]] u fun e w' => e = .returned (.bool true) ∧ Below u.heap.size u w')) (EC : Hid (∀ u, Below w.heap.size w u → Calls Try.prog 31 #[.agg #[.int .u64 S, .int .i64 room, .int .i64 votes, .slice A n cap, .int .u64 LS, .int .i64 LM, .slice LA R lcap], .string s] u fun e w' => e = .returned (.agg #[.string k, .int .i64 v, .bool f]) ∧ Below u.heap.size u w'))
    (GC : Hid (∀ u, Below w.heap.size w u → Calls Try.prog 32 #[.agg #[.int .u64 LS, .int .i64 LM, .slice LA R lcap], .string s] u fun e w' => e = .returned (.tuple #[.int .i64 gx, .bool dl]) ∧ Below u.heap.size u w')) (v0 : 0 ≤ v) (v1 : v ≤ 1099511627776) (g0 : 0 ≤ gx) (g1 : gx ≤ 255) (q0 : (gx == 0) = e0) (P : Value) (HP : Hid (P = if v > 0 ∧ f = false then .tuple #[.int .i64 v, .int .i64 v, .bool true, .bool false] else .tuple #[.int .i64 v, .int .i64 (v + gx), .bool e0, .bool (!dl)])) :
    Calls Try.prog 12 #[.agg #[.int .u64 S, .int .i64 room, .int .i64 votes, .slice A n cap, .int .u64 LS, .int .i64 LM, .slice LA R lcap], .string s] w fun e w' => e = .returned P ∧ Below w.heap.size w w' := by
  have BX : Hid (Below w.heap.size w (w.alloc (.cells #[.int .u64 S, .int .i64 room, .int .i64 votes, .slice A n cap, .int .u64 LS, .int .i64 LM, .slice LA R lcap] 28))) := bel_alloc _ _
  have KX : Hid (Blk (w.alloc (.cells #[.int .u64 S, .int .i64 room, .int .i64 votes, .slice A n cap, .int .u64 LS, .int .i64 LM, .slice LA R lcap] 28)) w.heap.size 28 #[.int .u64 S, .int .i64 room, .int .i64 votes, .slice A n cap, .int .u64 LS, .int .i64 LM, .slice LA R lcap]) := Blk.new _ _ _
  go_enter Try.func12, Try.ntmps12
  go_wp2_with fail
  generalize w.alloc (.cells #[.int .u64 S, .int .i64 room, .int .i64 votes, .slice A n cap, .int .u64 LS, .int .i64 LM, .slice LA R lcap] 28) = X at BX KX ⊢
  refine (RC.out _ BX.out).mono ?_
  rintro e u1 ⟨rfl, b1⟩
  have B1 := hidE (bel_trans BX.out b1)
  have K1 := hidE (KX.out.since b1)
  clear b1 BX KX RC
  have x0 : u1.cell? ⟨w.heap.size, 0, none⟩ = some (.int .u64 S) := K1.out.cell 0
  have x1 : u1.cell? ⟨w.heap.size, 1, none⟩ = some (.int .i64 room) := K1.out.cell 1
  have x2 : u1.cell? ⟨w.heap.size, 2, none⟩ = some (.int .i64 votes) := K1.out.cell 2
  have x3 : u1.cell? ⟨w.heap.size, 3, none⟩ = some (.slice A n cap) := K1.out.cell 3
  have x4 : u1.cell? ⟨w.heap.size, 4, none⟩ = some (.int .u64 LS) := K1.out.cell 4
  have x5 : u1.cell? ⟨w.heap.size, 5, none⟩ = some (.int .i64 LM) := K1.out.cell 5
  have x6 : u1.cell? ⟨w.heap.size, 6, none⟩ = some (.slice LA R lcap) := K1.out.cell 6
  go_wp2_with fail
  refine (EC.out _ B1.out).mono ?_
  rintro e u2 ⟨rfl, b2⟩
  have B2 := hidE (bel_trans B1.out b2)
  have K2 := hidE (K1.out.since b2)
  clear b2 B1 K1 EC x0 x1 x2 x3 x4 x5 x6
  have BA : Hid (Below u2.heap.size u2 (u2.alloc (.cells #[.string k, .int .i64 v, .bool f] 76))) := bel_alloc _ _
  have KA : Hid (Blk (u2.alloc (.cells #[.string k, .int .i64 v, .bool f] 76)) u2.heap.size 76 #[.string k, .int .i64 v, .bool f]) := Blk.new _ _ _
  go_upto_region 4 with fail
  have B3 := hidE (bel_trans B2.out BA.out)
  have K3 := hidE (K2.out.since BA.out)
  clear BA B2 K2
  generalize u2.alloc (.cells #[.string k, .int .i64 v, .bool f] 76) = Y at B3 K3 KA ⊢
  generalize u2.heap.size = g at KA ⊢
  have y1 : Y.cell? ⟨g, 1, none⟩ = some (.int .i64 v) := KA.out.cell 1
  have y2 : Y.cell? ⟨g, 2, none⟩ = some (.bool f) := KA.out.cell 2
  by_cases vp : v > 0
  · cases f with
    | false =>
      have PP : Hid (P = .tuple #[.int .i64 v, .int .i64 v, .bool true, .bool false]) := hidE (by rw [HP.out, if_pos ⟨vp, rfl⟩])
      clear HP
      go_wp2_with fail
      go_quiet (fail)
      go_wp2_with fail
      go_returns
      exact ⟨by first | (rw [PP.out]; done) | (rw [PP.out]; simp), below_drewN B3.out _⟩
    | true =>
      have PP : Hid (P = .tuple #[.int .i64 v, .int .i64 (v + gx), .bool e0, .bool (!dl)]) := hidE (by rw [HP.out, if_neg (fun z => by cases z.2)])
      clear HP
      have x4 : Y.cell? ⟨w.heap.size, 4, none⟩ = some (.int .u64 LS) := K3.out.cell 4
      have x5 : Y.cell? ⟨w.heap.size, 5, none⟩ = some (.int .i64 LM) := K3.out.cell 5
      have x6 : Y.cell? ⟨w.heap.size, 6, none⟩ = some (.slice LA R lcap) := K3.out.cell 6
      go_wp2_with fail
      refine (GC.out _ B3.out).mono ?_
      rintro e u3 ⟨rfl, b3⟩
      have B4 := hidE (bel_trans B3.out b3)
      have y1 : u3.cell? ⟨g, 1, none⟩ = some (.int .i64 v) := (KA.out.since b3).cell 1
      clear b3 B3 K3 KA x4 x5 x6
      cases dl with
      | false =>
        go_wp2_with fail
        go_quiet (fail)
        go_wp2_with fail
        go_returns
        exact ⟨by first | (rw [PP.out]; done) | (rw [PP.out]; simp), below_drewN B4.out _⟩
      | true =>
        go_wp2_with fail
        go_quiet (fail)
        go_wp2_with fail
        go_returns
        exact ⟨by first | (rw [PP.out]; done) | (rw [PP.out]; simp), below_drewN B4.out _⟩
  · have PP : Hid (P = .tuple #[.int .i64 v, .int .i64 (v + gx), .bool e0, .bool (!dl)]) := hidE (by rw [HP.out, if_neg (fun z => vp z.1)])
    clear HP
    have ve : v = 0 := by omega
    subst ve
    clear vp
    have x4 : Y.cell? ⟨w.heap.size, 4, none⟩ = some (.int .u64 LS) := K3.out.cell 4
    have x5 : Y.cell? ⟨w.heap.size, 5, none⟩ = some (.int .i64 LM) := K3.out.cell 5
    have x6 : Y.cell? ⟨w.heap.size, 6, none⟩ = some (.slice LA R lcap) := K3.out.cell 6
    go_wp2_with fail
    refine (GC.out _ B3.out).mono ?_
    rintro e u3 ⟨rfl, b3⟩
    have B4 := hidE (bel_trans B3.out b3)
    have y1 : u3.cell? ⟨g, 1, none⟩ = some (.int .i64 0) := (KA.out.since b3).cell 1
    clear b3 B3 K3 KA x4 x5 x6
    cases dl with
    | false =>
      go_wp2_with fail
      go_quiet (fail)
      go_wp2_with fail
      go_returns
      exact ⟨by first | (rw [PP.out]; done) | (rw [PP.out]; simp), below_drewN B4.out _⟩
    | true =>
      go_wp2_with fail
      go_quiet (fail)
      go_wp2_with fail
      go_returns
      exact ⟨by first | (rw [PP.out]; done) | (rw [PP.out]; simp), below_drewN B4.out _⟩
theorem egetC_ok (w : World) (x : Value) (S : Int) (room votes : Int) (bs : List Bkt) (R c : Nat) (Z : Nat → Nat → Int) (s : ByteArray) (b : Bkt) (lo hi : Int) (ex fu : Bool) (h : ElAt w x (elF S room votes bs R c Z)) (uS : U S) (rt : RightE (elF S room votes bs R c Z)) (sh : ShortE bs) (hs : s.size ≤ 100) (hb : bs[placeN S s bs.length 0]? = some b) (hg : getE R c (rowF S 1) b Z s = (lo, hi, ex, fu)) :
    Calls Try.prog 12 #[x, .string s] w fun e w' => e = .returned (.tuple #[.int .i64 lo, .int .i64 hi, .bool ex, .bool fu]) ∧ Below w.heap.size w w' := by
  have sm := small_of rt sh
  have ok : OkP 255 R c Z := rt.2.2.2.2.2.2.1.ok
  have b256 : bs.length ≤ 256 := rt.2.2.2.2.2.1
  have rb : RightB room b := rt.2.2.2.2.2.2.2.2.2 _ b hb
  have r8 : room ≤ 8 := rt.2.1
  have RC := hidE fun u (b : Below w.heap.size w u) => (erightC_any u x _ (h.keep (keep_of_below b)) uS sm).mono fun e w' q => (by
    obtain ⟨B, e1, e2, e3⟩ := q
    rw [e2.2 rt] at e1
    exact ⟨e1, e3⟩ : e = .returned (.bool true) ∧ Below u.heap.size u w')
  obtain ⟨bv, rv, hx, hB, hr⟩ := id h
  obtain ⟨A, cap, _, _, rfl, _, _⟩ := hB
  obtain ⟨LA, lcap, _, _, rfl, _⟩ := hr.read
  have GC := hidE fun u (b : Below w.heap.size w u) => get_ok u (.agg #[.int .u64 (rowF S 1), .int .i64 255, .slice LA R lcap]) (rowF S 1) 255 R c Z s (rowsI_sk (F := elF S room votes bs R c Z) (hr.keep (keep_of_below b))) ok (rowF_U S 1) (by omega)
  have g0 : 0 ≤ getF 255 Z (placeN (rowF S 1) s c) R := getF_nn ok (fun i hi => placeN_lt _ _ _ _ ok.2.2.2.2.1) (Nat.le_refl _)
  have g1 : getF 255 Z (placeN (rowF S 1) s c) R ≤ 255 := (getF_le _ _ _ _).1
  obtain ⟨gx, hgx⟩ : ∃ gx, gx = getF 255 Z (placeN (rowF S 1) s c) R := ⟨_, rfl⟩
  have core : ∀ k v f, FoundE b.es s k v f → 0 ≤ v → v ≤ 1099511627776 → Calls Try.prog 12 #[x, .string s] w fun e w' => e = .returned (if v > 0 ∧ f = false then .tuple #[.int .i64 v, .int .i64 v, .bool true, .bool false] else .tuple #[.int .i64 v, .int .i64 (v + gx), .bool (decide (gx = 0)), .bool (!decide (gx < 255))]) ∧ Below w.heap.size w w' := fun k v f hf v0 v1 => by
    have EC := hidE fun u (q : Below w.heap.size w u) => eentry_any u x (elF S room votes bs R c Z) s k v f b (h.keep (keep_of_below q)) uS (by omega) (by show bs.length ≤ 1000; omega) hb (by have := rb.1; omega) hf
    rw [hx] at RC EC ⊢
    rw [← hgx] at g0 g1 GC
    exact egetC_core w S room votes (rowF S 1) 255 A LA bs.length cap R lcap s k v f gx _ _ RC EC GC v0 v1 g0 g1 (by rw [Bool.eq_iff_iff]; simp) _ (hidE rfl)
  rw [← hgx] at g0 g1
  cases ga : atE b.es s with
  | none =>
    rw [getE_no ga, ← hgx] at hg
    simp only [Prod.mk.injEq] at hg
    obtain ⟨rfl, rfl, rfl, rfl⟩ := hg
    refine (core ⟨#[]⟩ 0 false (Or.inl ⟨ga, rfl, rfl, rfl⟩) (by omega) (by omega)).mono fun e w' q => ⟨?_, q.2⟩
    rw [q.1, if_neg (by omega), Int.zero_add]
    have : (!decide (gx < 255)) = decide (gx = 255) := by rw [Bool.eq_iff_iff]; simp; omega
    rw [this]
  | some i =>
    obtain ⟨e, he, _⟩ := atE_some ga
    have r := rb.2.2.2 i e he
    rw [getE_at ga he, ← hgx] at hg
    refine (core e.k e.v e.f (Or.inr ⟨i, ga, he⟩) (by omega) (by omega)).mono fun e2 w' q => ⟨?_, q.2⟩
    rw [q.1]
    by_cases ef : e.f = false
    · rw [if_pos ef] at hg
      simp only [Prod.mk.injEq] at hg
      obtain ⟨rfl, rfl, rfl, rfl⟩ := hg
      rw [if_pos ⟨by omega, ef⟩]
    · rw [if_neg ef] at hg
      simp only [Prod.mk.injEq] at hg
      obtain ⟨rfl, rfl, rfl, rfl⟩ := hg
      rw [if_neg (fun z => ef z.2)]
      have : (!decide (gx < 255)) = decide (gx = 255) := by rw [Bool.eq_iff_iff]; simp; omega
      rw [this]
end Go.Proofs.Ytihealembikkiaa
