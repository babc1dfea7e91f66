
/-
  Clone of bits, and New and Add of layer 10 (bloom): what they answer.
-/
import Derived.Test.YtbnjicbmainopaaBlmMem
import Derived.Lib.SliceRun
namespace Go.Proofs.Ytbnjicbmainopaa
open Go.RowKit Fm Bl L2 Go.Deep
set_option linter.unusedVariables false

/-- Bits in a row that is known. -/
def RowB (w : World) (g n : Nat) (B : Nat → Bool) : Prop := ∃ cur, Blk w g 4 cur ∧ ∀ i, i < n → cur[i]? = some (.bool (B i))
theorem RowB.cell {w : World} {g n : Nat} {B : Nat → Bool} (h : RowB w g n B) {i : Nat} (hi : i < n) : w.cell? ⟨g, i, none⟩ = some (.bool (B i)) := by
  obtain ⟨cur, h1, h2⟩ := h
  rw [h1.cell i]; exact h2 i hi
theorem RowB.frozen {w : World} {g n : Nat} {B : Nat → Bool} (h : RowB w g n B) (i : Nat) : w.frozen? ⟨g, i, none⟩ = false := by
  obtain ⟨cur, h1, h2⟩ := h
  exact h1.frozen i
theorem RowB.other {w : World} {g n : Nat} {B : Nat → Bool} (h : RowB w g n B) {a : Addr} (ha : g ≠ a.block) (v : Value) : RowB (w.setCell a v) g n B := by
  obtain ⟨cur, h1, h2⟩ := h
  exact ⟨cur, h1.other ha v, h2⟩
theorem RowB.drew {w : World} {g n : Nat} {B : Nat → Bool} (h : RowB w g n B) : RowB w.drew g n B := h
theorem RowB.set {w : World} {g n : Nat} {B : Nat → Bool} (h : RowB w g n B) (p : Nat) (b : Bool) : RowB (w.setCell ⟨g, p, none⟩ (.bool b)) g n (fun i => if i = p then b else B i) := by
  obtain ⟨cur, h1, h2⟩ := h
  refine ⟨_, h1.set p (.bool b), fun i hi => ?_⟩
  have hz : i < cur.size := by
    rcases Nat.lt_or_ge i cur.size with hl | hl
    · exact hl
    · have := h2 i hi
      rw [Array.getElem?_eq_none hl] at this
      cases this
  rw [Array.getElem?_setIfInBounds]
  by_cases e : p = i
  · subst e
    simp [hz]
  · rw [if_neg e]
    show cur[i]? = some (Value.bool (if i = p then b else B i))
    rw [if_neg (fun (x : i = p) => e x.symm)]
    exact h2 i hi
theorem RowB.congr {w : World} {g n : Nat} {B C : Nat → Bool} (h : RowB w g n B) (e : ∀ i, i < n → B i = C i) : RowB w g n C := by
  obtain ⟨cur, h1, h2⟩ := h
  exact ⟨cur, h1, fun i hi => by rw [← e i hi]; exact h2 i hi⟩
theorem RowB.put3 {w : World} {q g n : Nat} {B : Nat → Bool} (h : RowB w g n B) (hq : g ≠ q) (a b c : Value) : RowB (put3 w q a b c) g n B := by
  obtain ⟨cur, h1, h2⟩ := h
  exact ⟨cur, put3_other h1 hq a b c, h2⟩
/-- What a copy of bits is. -/
def Cloned (w : World) (n : Nat) (B : Nat → Bool) (e : Ending) (w' : World) : Prop :=
  ∃ A cap g, e = .returned (.slice A n cap) ∧ n ≤ cap ∧ (0 < n → A = some ⟨g, 0, none⟩ ∧ w.heap.size ≤ g ∧ g < w'.heap.size ∧ RowB w' g n B) ∧ Below w.heap.size w w'
theorem cloned_of {w w' : World} {v : Value} {n : Nat} {B : Nat → Bool} (h : w'.ownsRow w.heap.size 4 1 v n ((List.range n).map fun i => Value.bool (B i))) (b : Below w.heap.size w w') : Cloned w n B (.returned v) w' := by
  rcases h.2 with ⟨rfl, rfl⟩ | ⟨g, cap, cur, rfl, hb, hg, hn, _, _, hx⟩
  · exact ⟨none, 0, 0, rfl, Nat.le_refl _, fun h => by omega, b⟩
  · have hk : Blk w' g 4 cur := hg
    refine ⟨_, cap, g, rfl, hn, fun _ => ⟨rfl, hb, hk.lt, cur, hk, fun i hi => ?_⟩, b⟩
    have e := h.cellAt (j := i) (by omega)
    rw [← hk.cell i, e]
    simp [hi]
theorem info4' : ∃ i, Try.prog.info? 4 = some i ∧ i.zero = some (.bool false) ∧ i.size = 1 ∧ i.bytes = 1 := by
  obtain ⟨i, hi, hzz⟩ := Option.map_eq_some_iff.1 info4
  simp only [Prod.mk.injEq] at hzz
  exact ⟨i, hi, hzz⟩
set_option maxHeartbeats 2000000 in
theorem clone_any (w : World) (v : Value) (n : Nat) (B : Nat → Bool) (h : BoolsAt w v n B) (hn : n ≤ 100000) : Calls Try.prog 28 #[v] w (Cloned w n B) := by
  obtain ⟨A, cap, b, o, rfl, h2, h3, h4⟩ := h
  obtain ⟨i4, hi, hz0, hz1, hz2⟩ := info4'
  have HI : Hid (Try.prog.info? 4 = some i4 ∧ i4.zero = some (.bool false) ∧ i4.size = 1 ∧ i4.bytes = 1) := ⟨hi, hz0, hz1, hz2⟩
  clear hi hz0 hz1 hz2
  have q : ∀ (w : World) (a : Option Addr) (n c n' c' : Nat), (binOp .eql 23 (.slice a n c) (.slice none n' c')).run Try.prog w = .ok (.bool a.isNone) w := fun w a n c n' c' => Lib.run_eql_slice_nil w _ _ a n c n' c' Try.underlying23
  by_cases h0 : n = 0
  · subst h0
    clear h3 h4
    cases A with
    | none =>
      go_enter Try.func28, Try.ntmps28
      go_wp2
      go_ret
      exact ⟨none, 0, 0, rfl, Nat.le_refl _, fun h => by omega, Below.refl _ _⟩
    | some a =>
      go_enter Try.func28, Try.ntmps28
      go_wp2_with (at_builtin; refine wpList_append_own _ rfl _ _ 23 rfl w.heap.size 4 i4 (.bool false) 1 1 Try.underlying23 HI.out.1 HI.out.2.1 HI.out.2.2.1 HI.out.2.2.2 rfl (by decide) _ _ _ rfl (World.ownsRow_made w #[] 0 (Nat.le_refl _) (Nat.zero_le _) rfl) a 0 cap [] rfl rfl (by intro j u hj; simp at hj) (by intro u hu; cases hu) (by unfold maxLen; omega) (by omega) (by simp) ?_)
      intro v' w1 hown hgrow hnil
      go_wp2
      go_ret
      exact cloned_of (by simpa using hown) (((Below.refl _ w).alloc (Nat.le_refl _) _).grown hgrow (by simp) (by intro k hk; simp [Value.ownBlock] at hk; omega))
  · obtain rfl := h3 (by omega)
    have A4 : Hid (∀ i, i < n → w.cell? ⟨b, o + i, none⟩ = some (.bool (B i))) := h4
    clear h3 h4
    go_enter Try.func28, Try.ntmps28
    go_wp2_with (at_builtin; refine wpList_append_own _ rfl _ _ 23 rfl w.heap.size 4 i4 (.bool false) 1 1 Try.underlying23 HI.out.1 HI.out.2.1 HI.out.2.2.1 HI.out.2.2.2 rfl (by decide) _ _ _ rfl (World.ownsRow_made w #[] 0 (Nat.le_refl _) (Nat.zero_le _) rfl) ⟨b, o, none⟩ n cap ((List.range n).map fun i => Value.bool (B i)) rfl ?qc1 ?qc2 ?qc3 ?qc4 ?qc5 ?qc6 ?_)
    case qc1 => simp
    case qc2 =>
      intro j u hj
      have hjn : j < n := by
        have := (List.getElem?_eq_some_iff.1 hj).1
        simpa using this
      have e : ((List.range n).map fun i => Value.bool (B i))[j]? = some (Value.bool (B j)) := by simp [hjn]
      rw [e] at hj
      rw [Addr.add_lit, ← hj, ← A4.out j hjn]
      exact World.cell?_alloc_lt w _ _ (World.block_lt_of_cell? _ _ (A4.out j hjn))
    case qc3 => intro u hu; obtain ⟨x, _, rfl⟩ := List.mem_map.1 hu; rfl
    case qc4 => unfold maxLen; omega
    case qc5 => omega
    case qc6 => simp
    intro v' w1 hown hgrow hnil
    go_wp2
    go_ret
    exact cloned_of (by simpa using hown) (((Below.refl _ w).alloc (Nat.le_refl _) _).grown hgrow (by simp) (by intro k hk; simp [Value.ownBlock] at hk; omega))
/-- A filter that is told. -/
def Gave (w : World) (S H : Int) (n : Nat) (C : Nat → Bool) (e : Ending) (w' : World) : Prop := ∃ x, e = .returned x ∧ FilterAt w' x S H n C ∧ Below w.heap.size w w'
/-- What the loop of Add keeps: the filter in its box, the place of the answer, the row. -/
structure AddIn (w wr : World) (X R : Nat) (S H : Int) (A : Option Addr) (cap g n : Nat) (B : Nat → Bool) : Prop where
  since : Below w.heap.size w wr
  box : Blk wr X 25 #[.int .u64 S, .int .i64 H, .slice A n cap]
  res : Blk wr R 25 #[.int .u64 0, .int .i64 0, .slice none 0 0]
  xr : X ≠ R ∧ w.heap.size ≤ X ∧ w.heap.size ≤ R
  le : n ≤ cap
  row : 0 < n → A = some ⟨g, 0, none⟩ ∧ w.heap.size ≤ g ∧ g ≠ X ∧ g ≠ R ∧ RowB wr g n B
theorem AddIn.set {w wr : World} {X R : Nat} {S H : Int} {A : Option Addr} {cap g n : Nat} {B : Nat → Bool} (h : AddIn w wr X R S H A cap g n B) {p : Nat} (hp : p < n) (b : Bool) : AddIn w (wr.setCell ⟨g, p, none⟩ (.bool b)) X R S H A cap g n (fun i => if i = p then b else B i) := by
  obtain ⟨r1, r2, r3, r4, r5⟩ := h.row (by omega)
  exact ⟨h.since.setCell (p := ⟨g, p, none⟩) r2 _, h.box.other (a := ⟨g, p, none⟩) (fun e => r3 e.symm) _, h.res.other (a := ⟨g, p, none⟩) (fun e => r4 e.symm) _, h.xr, h.le, fun _ => ⟨r1, r2, r3, r4, r5.set p b⟩⟩
theorem AddIn.drew {w wr : World} {X R : Nat} {S H : Int} {A : Option Addr} {cap g n : Nat} {B : Nat → Bool} (h : AddIn w wr X R S H A cap g n B) : AddIn w wr.drew X R S H A cap g n B := ⟨h.since.drew, h.box, h.res, h.xr, h.le, h.row⟩
theorem AddIn.congr {w wr : World} {X R : Nat} {S H : Int} {A : Option Addr} {cap g n : Nat} {B C : Nat → Bool} (h : AddIn w wr X R S H A cap g n B) (e : ∀ i, i < n → B i = C i) : AddIn w wr X R S H A cap g n C :=
  ⟨h.since, h.box, h.res, h.xr, h.le, fun hn => ⟨(h.row hn).1, (h.row hn).2.1, (h.row hn).2.2.1, (h.row hn).2.2.2.1, (h.row hn).2.2.2.2.congr e⟩⟩
theorem AddIn.done {w wr : World} {X R : Nat} {S H : Int} {A : Option Addr} {cap g n : Nat} {B : Nat → Bool} (h : AddIn w wr X R S H A cap g n B) (a b c : Value) : FilterAt (put3 wr R a b c) (.agg #[.int .u64 S, .int .i64 H, .slice A n cap]) S H n B ∧ Below w.heap.size w (put3 wr R a b c) := by
  refine ⟨⟨_, rfl, A, cap, g, 0, rfl, h.le, fun hn => (h.row hn).1, fun i hi => ?_⟩, put3_below h.since h.xr.2.2 a b c⟩
  obtain ⟨r1, r2, r3, r4, r5⟩ := h.row (by omega)
  rw [Nat.zero_add]
  exact (r5.put3 r4 a b c).cell hi
/-- The filter with its bits copied. -/
theorem add_start {w u1 u2 : World} {X R : Nat} {S H : Int} {v : Value} {A : Option Addr} {cap g n : Nat} {B : Nat → Bool} (b1 : Below w.heap.size w u1) (b2 : Below u1.heap.size u1 u2) (hX : Blk u1 X 25 #[.int .u64 S, .int .i64 H, v]) (hR : Blk u1 R 25 #[.int .u64 0, .int .i64 0, .slice none 0 0]) (xr : X ≠ R ∧ w.heap.size ≤ X ∧ w.heap.size ≤ R) (le : n ≤ cap)
    (hr : 0 < n → A = some ⟨g, 0, none⟩ ∧ u1.heap.size ≤ g ∧ g < u2.heap.size ∧ RowB u2 g n B) : AddIn w (u2.setCell ⟨X, 2, none⟩ (.slice A n cap)) X R S H A cap g n B := by
  have x2 := hX.since b2
  have r2 := hR.since b2
  have lX := hX.lt
  have lR := hR.lt
  have s1 := b1.size
  refine ⟨(bel_trans b1 b2).setCell (p := ⟨X, 2, none⟩) xr.2.1 _, x2.set 2 _, r2.other (a := ⟨X, 2, none⟩) (fun e => xr.1 e.symm) _, xr, le, fun hn => ?_⟩
  obtain ⟨a1, a2, a3, a4⟩ := hr hn
  exact ⟨a1, by omega, by omega, by omega, a4.other (a := ⟨X, 2, none⟩) (by show g ≠ X; omega) _⟩
/-- A number stands where bits or slices are turned. -/
theorem int_stands {w : World} {a c : Addr} {k : IntKind} {z : Int} {u : Value} (h : w.cell? a = some (.int k z)) (hc : w.cell? c = some u) (hu : ∀ k z, u ≠ .int k z) (v : Value) : (w.setCell c v).cell? a = some (.int k z) := by
  rw [World.cell?_setCell_other _ _ _ _ (fun e => ?_)]
  · exact h
  · subst e
    rw [h] at hc
    cases hc
    exact hu _ _ rfl
set_option maxHeartbeats 3200000 in
theorem add_any (w : World) (x : Value) (S H : Int) (n : Nat) (B : Nat → Bool) (s : ByteArray) (h : FilterAt w x S H n B) (uS : U S) (hs : s.size ≤ 100000) (hn : n ≤ 100000) :
    Calls Try.prog 16 #[x, .string s] w (Gave w S H n (addB S H n B s)) := by
  obtain ⟨v, rfl, hb⟩ := h
  have HBs : Hid (BoolsAt w v n B) := hb
  have PC : Hid (∀ w1, Below w.heap.size w w1 → Calls Try.prog 17 #[.agg #[.int .u64 S, .int .i64 H, v], .string s] w1 (GavePlaces w1 (kN n H) (placeN S s n))) := fun w1 b1 => places_any w1 _ S H n B s ⟨v, rfl, hb.keep (keep_of_below b1)⟩ uS hs
  have CC : Hid (∀ w1, Below w.heap.size w w1 → Calls Try.prog 28 #[v] w1 (Cloned w1 n B)) := fun w1 b1 => clone_any w1 v n B (hb.keep (keep_of_below b1)) hn
  obtain ⟨Av, capv, bv, ov, rfl, _⟩ := hb
  clear HBs
  have B0 : Hid (Below w.heap.size w ((w.alloc (.cells #[.int .u64 S, .int .i64 H, .slice Av n capv] 25)).alloc (.cells #[.int .u64 0, .int .i64 0, .slice none 0 0] 25))) := (bel_alloc _ _).alloc (by simp) _
  have KX : Hid (Blk ((w.alloc (.cells #[.int .u64 S, .int .i64 H, .slice Av n capv] 25)).alloc (.cells #[.int .u64 0, .int .i64 0, .slice none 0 0] 25)) w.heap.size 25 #[.int .u64 S, .int .i64 H, .slice Av n capv]) := (Blk.new _ _ _).alloc _
  have KR : Hid (Blk ((w.alloc (.cells #[.int .u64 S, .int .i64 H, .slice Av n capv] 25)).alloc (.cells #[.int .u64 0, .int .i64 0, .slice none 0 0] 25)) (w.heap.size + 1) 25 #[.int .u64 0, .int .i64 0, .slice none 0 0]) := by
    have e := Blk.new (w.alloc (.cells #[.int .u64 S, .int .i64 H, .slice Av n capv] 25)) 25 #[.int .u64 0, .int .i64 0, .slice none 0 0]
    simp only [World.size_alloc] at e
    exact e
  go_enter Try.func16, Try.ntmps16
  go_wp2_with fail
  refine (PC.out _ B0.out).mono ?_
  rintro e u1 ⟨vp, rfl, hp, b1⟩
  have BU : Hid (Below w.heap.size w u1) := bel_trans B0.out b1
  have KX1 : Hid (Blk u1 w.heap.size 25 #[.int .u64 S, .int .i64 H, .slice Av n capv]) := KX.out.since b1
  have KR1 : Hid (Blk u1 (w.heap.size + 1) 25 #[.int .u64 0, .int .i64 0, .slice none 0 0]) := KR.out.since b1
  have x2 : u1.cell? ⟨w.heap.size, 2, none⟩ = some (.slice Av n capv) := KX1.out.cell 2
  obtain ⟨Ap, capp, bp, op, rfl, _, p3, p4⟩ := hp
  obtain ⟨K, hK⟩ : ∃ K, K = kN n H := ⟨_, rfl⟩
  rw [← hK] at p3 p4 ⊢
  have HKN : Hid (K = kN n H) := hK
  have k7 : K ≤ 7 := by rw [hK]; exact kN_le n H
  have P3 : Hid (0 < K → Ap = some ⟨bp, op, none⟩) := p3
  have P4 : Hid (∀ i, i < K → u1.cell? ⟨bp, op + i, none⟩ = some (.int .i64 (placeN S s n i : Int))) := p4
  clear b1 KX KR B0 PC p3 p4 hK
  go_wp2_with fail
  refine (CC.out _ BU.out).mono ?_
  rintro e u2 ⟨A, cap, g, rfl, le, row, b2⟩
  have AI : Hid (AddIn w (u2.setCell ⟨w.heap.size, 2, none⟩ (.slice A n cap)) w.heap.size (w.heap.size + 1) S H A cap g n B) := add_start BU.out b2 KX1.out KR1.out ⟨by omega, by omega, by omega⟩ le row
  have y2 : u2.cell? ⟨w.heap.size, 2, none⟩ = some (.slice Av n capv) := (KX1.out.since b2).cell 2
  have f2 : u2.frozen? ⟨w.heap.size, 2, none⟩ = false := (KX1.out.since b2).frozen 2
  have P5 : Hid (∀ i, i < K → (u2.setCell ⟨w.heap.size, 2, none⟩ (.slice A n cap)).cell? ⟨bp, op + i, none⟩ = some (.int .i64 (placeN S s n i : Int))) := fun i hi => int_stands (keep_of_below b2 _ _ (P4.out i hi)) y2 (by intro k z e; cases e) _
  clear le row b2 KX1 KR1 P4 CC x2
  go_wp2_with fail
  clear y2 f2
  generalize u2.setCell ⟨w.heap.size, 2, none⟩ (.slice A n cap) = u3 at AI P5 ⊢
  go_loopg [17] K (fun gk i wr => ∃ k : Nat, (gk = K - k ∧ k ≤ K ∧ AddIn w wr w.heap.size (w.heap.size + 1) S H A cap g n (setN B (placeN S s n) k) ∧ ∀ i, i < K → wr.cell? ⟨bp, op + i, none⟩ = some (.int .i64 (placeN S s n i : Int))) ∧ i = .int .i64 (k : Int))
  case atStart => exact ⟨0, ⟨rfl, by omega, AI.out, P5.out⟩, rfl⟩
  case round =>
    clear AI P5
    obtain ⟨k, ⟨hg, hk, hA, hP⟩, rfl⟩ := hrel
    have HK : Hid (gk = K - k ∧ AddIn w wr w.heap.size (w.heap.size + 1) S H A cap g n (setN B (placeN S s n) k) ∧ ∀ i, i < K → wr.cell? ⟨bp, op + i, none⟩ = some (.int .i64 (placeN S s n i : Int))) := ⟨hg, hA, hP⟩
    have x2 : wr.cell? ⟨w.heap.size, 2, none⟩ = some (.slice A n cap) := hA.box.cell 2
    by_cases hlt : k < K
    · obtain rfl := P3.out (by omega)
      have n1 : 1 ≤ n := (kN_pos (show k < kN n H by rw [← HKN.out]; exact hlt)).1
      have ck := hP k hlt
      obtain ⟨P, hPP⟩ : ∃ P, P = placeN S s n k := ⟨_, rfl⟩
      have pl : P < n := by rw [hPP]; exact placeN_lt S s n k n1
      rw [← hPP] at ck
      obtain ⟨rfl, r2, r3, r4, r5⟩ := hA.row (by omega)
      have cp := r5.cell pl
      have fp := r5.frozen P
      have hb0 : (P : Int) < (n : Int) := by omega
      have hb1 : (k : Int) < (K : Int) := by omega
      have NX : Hid (AddIn w (wr.setCell ⟨g, P, none⟩ (.bool true)) w.heap.size (w.heap.size + 1) S H (some ⟨g, 0, none⟩) cap g n (setN B (placeN S s n) (k + 1))) := by
        have e := hA.set pl true
        rw [hPP] at e ⊢
        exact e
      have NP : Hid (∀ i, i < K → (wr.setCell ⟨g, P, none⟩ (.bool true)).cell? ⟨bp, op + i, none⟩ = some (.int .i64 (placeN S s n i : Int))) := fun i hi => int_stands (hP i hi) cp (by intro k z e; cases e) _
      generalize setN B (placeN S s n) k P = bit at cp
      clear hg hA hP hPP r5 r2 r3 r4
      go_wp2_with fail
      go_roundg (K - (k + 1))
      case measure => have := HK.out.1; omega
      case rel => exact ⟨k + 1, ⟨rfl, by omega, NX.out, NP.out⟩, by go_num⟩
    · have e : k = K := by omega
      have HE : Hid (k = K) := e
      have b1 : ¬ (k : Int) < (K : Int) := by omega
      have x0 : wr.cell? ⟨w.heap.size, 0, none⟩ = some (.int .u64 S) := hA.box.cell 0
      have x1 : wr.cell? ⟨w.heap.size, 1, none⟩ = some (.int .i64 H) := hA.box.cell 1
      have r0 : wr.cell? ⟨w.heap.size + 1, 0, none⟩ = some (.int .u64 0) := hA.res.cell 0
      have r1 : wr.cell? ⟨w.heap.size + 1, 1, none⟩ = some (.int .i64 0) := hA.res.cell 1
      have r2 : wr.cell? ⟨w.heap.size + 1, 2, none⟩ = some (.slice none 0 0) := hA.res.cell 2
      have z0 := hA.res.frozen 0
      have z1 := hA.res.frozen 1
      have z2 := hA.res.frozen 2
      clear e hlt hg hA hP hk
      go_wp2_with fail
      have DN := HK.out.2.1.done (.int .u64 S) (.int .i64 H) (.slice A n cap)
      rw [HE.out, HKN.out] at DN
      refine bodyPost_ret (v := .agg #[.int .u64 S, .int .i64 H, .slice A n cap]) ?_ rfl ?_
      rotate_left
      · exact ⟨_, rfl, DN.1, DN.2⟩
      have c3 := put3_blk (t := 25) (HK.out.2.1.res) (.int .u64 S) (.int .i64 H) (.slice A n cap)
      have c30 := c3.cell 0
      have c31 := c3.cell 1
      have c32 := c3.cell 2
      change (results _ _).run _ (put3 (wr) (w.heap.size + 1) (.int .u64 S) (.int .i64 H) (.slice A n cap)) = .ok _ (put3 (wr) (w.heap.size + 1) (.int .u64 S) (.int .i64 H) (.slice A n cap))
      generalize put3 (wr) (w.heap.size + 1) (.int .u64 S) (.int .i64 H) (.slice A n cap) = W5 at c30 c31 c32
      simp [results, Try.results16, go_sem, c30, c31, c32]
set_option maxHeartbeats 800000 in
theorem new_bad (S b h : Int) (w : World) (hf : fitsB b h = false) :
    Calls Try.prog 9 #[.int .u64 S, .int .i64 b, .int .i64 h] w fun e w' => e = .returned (.tuple #[.agg #[.int .u64 0, .int .i64 0, .slice none 0 0], .int .i64 1]) ∧ Below w.heap.size w w' := by
  go_enter Try.func9, Try.ntmps9
  go_wp2_with fail
  refine (fits_any _ _ _).mono ?_
  rintro e u1 ⟨rfl, rfl⟩
  go_wp2_with fail
  go_returns
  exact ⟨rfl, bel_alloc _ _⟩
def GaveNew (w : World) (S H : Int) (n : Nat) (e : Ending) (w' : World) : Prop := ∃ x, e = .returned (.tuple #[x, .int .i64 0]) ∧ FilterAt w' x S H n (fun _ => false) ∧ Below w.heap.size w w'
set_option maxHeartbeats 800000 in
theorem new_ok (S : Int) (n : Nat) (h : Int) (w : World) (hf : fitsB n h = true) :
    Calls Try.prog 9 #[.int .u64 S, .int .i64 (n : Int), .int .i64 h] w (GaveNew w S h n) := by
  have hR := (fitsB_iff _ _).1 hf
  have n1 : n ≤ 256 := by omega
  clear hR
  obtain ⟨W, hW⟩ : ∃ W, W = w.alloc (.cells #[.int .u64 0, .int .i64 0, .slice none 0 0] 25) := ⟨_, rfl⟩
  have z : W.heap.size = w.heap.size + 1 := by rw [hW]; simp
  have hmk : (Instr.makeSlice 23 (.int .i64 (n : Int)) (.int .i64 (n : Int))).run Try.prog (w.alloc (.cells #[.int .u64 0, .int .i64 0, .slice none 0 0] 25)) = .ok (.slice (some ⟨w.heap.size + 1, 0, none⟩) n n) ((w.alloc (.cells #[.int .u64 0, .int .i64 0, .slice none 0 0] 25)).alloc (.cells (madeCells #[.bool false] n) 4)) := by
    have e := run_make_full (P := Try.prog) 23 4 (.bool false) 1 Try.underlying23 info4 rfl .i64 .i64 n (by omega) (by omega) W
    rw [z, hW] at e
    exact e
  have K1 : Hid (Blk ((w.alloc (.cells #[.int .u64 0, .int .i64 0, .slice none 0 0] 25)).alloc (.cells (madeCells #[.bool false] n) 4)) w.heap.size 25 #[.int .u64 0, .int .i64 0, .slice none 0 0]) := (Blk.new _ _ _).alloc _
  have B1 : Hid (Below w.heap.size w ((w.alloc (.cells #[.int .u64 0, .int .i64 0, .slice none 0 0] 25)).alloc (.cells (madeCells #[.bool false] n) 4))) := (bel_alloc _ _).alloc (by simp) _
  have R1 : Hid (((w.alloc (.cells #[.int .u64 0, .int .i64 0, .slice none 0 0] 25)).alloc (.cells (madeCells #[.bool false] n) 4)).rowIs (w.heap.size + 1) 4 n (fun _ => .bool false)) := by
    have e := World.rowIs_made W (.bool false) n 4
    rw [z, hW] at e
    exact e
  clear hW z W
  obtain ⟨W, hW⟩ : ∃ W, W = (w.alloc (.cells #[.int .u64 0, .int .i64 0, .slice none 0 0] 25)).alloc (.cells (madeCells #[.bool false] n) 4) := ⟨_, rfl⟩
  rw [← hW] at hmk K1 B1 R1
  have r0 : W.cell? ⟨w.heap.size, 0, none⟩ = some (.int .u64 0) := K1.out.cell 0
  have r1 : W.cell? ⟨w.heap.size, 1, none⟩ = some (.int .i64 0) := K1.out.cell 1
  have r2 : W.cell? ⟨w.heap.size, 2, none⟩ = some (.slice none 0 0) := K1.out.cell 2
  have z0 := K1.out.frozen 0
  have z1 := K1.out.frozen 1
  have z2 := K1.out.frozen 2
  clear hW
  go_enter Try.func9, Try.ntmps9
  go_wp2_with fail
  refine (fits_any _ _ _).mono ?_
  rintro e u1 ⟨rfl, rfl⟩
  go_wp2_with fail
  have FA : FilterAt (put3 W w.heap.size (.int .u64 S) (.int .i64 h) (.slice (some ⟨w.heap.size + 1, 0, none⟩) n n)) (.agg #[.int .u64 S, .int .i64 h, .slice (some ⟨w.heap.size + 1, 0, none⟩) n n]) S h n (fun _ => false) := by
    refine ⟨_, rfl, _, n, w.heap.size + 1, 0, rfl, Nat.le_refl _, fun _ => rfl, fun i hi => ?_⟩
    obtain ⟨c, q1, q2, q3⟩ := R1.out
    have q4 : Blk W (w.heap.size + 1) 4 c := q1
    rw [Nat.zero_add, (put3_other q4 (by omega) _ _ _).cell i]
    exact q3 i hi
  refine bodyPost_ret (v := .tuple #[.agg #[.int .u64 S, .int .i64 h, .slice (some ⟨w.heap.size + 1, 0, none⟩) n n], .int .i64 0]) ?_ rfl ?_
  rotate_left
  · exact ⟨_, rfl, FA, put3_below B1.out (Nat.le_refl _) _ _ _⟩
  have c3 := put3_blk (t := 25) (K1.out) (.int .u64 S) (.int .i64 h) (.slice (some ⟨w.heap.size + 1, 0, none⟩) n n)
  have c30 := c3.cell 0
  have c31 := c3.cell 1
  have c32 := c3.cell 2
  change (results _ _).run _ (put3 (W) (w.heap.size) (.int .u64 S) (.int .i64 h) (.slice (some ⟨w.heap.size + 1, 0, none⟩) n n)) = .ok _ (put3 (W) (w.heap.size) (.int .u64 S) (.int .i64 h) (.slice (some ⟨w.heap.size + 1, 0, none⟩) n n))
  generalize put3 (W) (w.heap.size) (.int .u64 S) (.int .i64 h) (.slice (some ⟨w.heap.size + 1, 0, none⟩) n n) = W5 at c30 c31 c32
  simp [results, Try.results9, go_sem, c30, c31, c32]
end Go.Proofs.Ytbnjicbmainopaa
