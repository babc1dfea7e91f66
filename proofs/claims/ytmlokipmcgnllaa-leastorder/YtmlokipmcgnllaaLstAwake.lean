
/-
  What the laws of layer 11 call of their own: ref, awake, few, adds.
-/
import Derived.Test.YtmlokipmcgnllaaLstAdd
import Derived.Test.YtmlokipmcgnllaaLstOpen
import Derived.Deep.Cut
import Derived.Deep.CutRange
namespace Go.Proofs.Ytmlokipmcgnllaa
open Go.RowKit Fm Bl Lt L2 Go.Deep
set_option linter.unusedVariables false

theorem told {w : World} {P : Prop} {e : Ending} {w' : World} (h : TellsB w P e w') (b : Bool) (hb : b = true ↔ P) : e = .returned (.bool b) ∧ Below w.heap.size w w' := by
  obtain ⟨c, h1, h2, h3⟩ := h
  refine ⟨?_, h3⟩
  rw [h1]
  cases b <;> cases c <;> simp_all
theorem ok_none {S M : Int} {R n : Nat} (hf : fitsL R n M = true) : OkP M R n (fun _ _ => 0) := by
  have h := (fitsL_iff _ _ _).1 hf
  exact ⟨by omega, by omega, by omega, by omega, by omega, by omega, fun i _ j _ => ⟨Int.le_refl 0, show (0 : Int) ≤ M by omega⟩⟩
set_option maxHeartbeats 800000 in
theorem ref_any (w : World) (x : Value) (S M : Int) (R : Nat) (L : Nat → Nat) (Z : Nat → Nat → Int) (h : SkAt w x S M R L Z) : Calls Try.prog 11 #[x] w fun e w' => e = .returned x ∧ Below w.heap.size w w' := by
  obtain ⟨v, rfl, hv⟩ := h
  obtain ⟨A, cap, b, o, rfl, hc, hr⟩ := hv.read
  clear hv hr
  have BW : Hid (Below w.heap.size w ((w.alloc (.cells #[.int .u64 S, .int .i64 M, .slice A R cap] 25)).alloc (.cells #[.int .u64 0, .int .i64 0, .slice none 0 0] 30))) := (bel_alloc _ _).alloc (by simp) _
  have KX : Hid (Blk ((w.alloc (.cells #[.int .u64 S, .int .i64 M, .slice A R cap] 25)).alloc (.cells #[.int .u64 0, .int .i64 0, .slice none 0 0] 30)) w.heap.size 25 #[.int .u64 S, .int .i64 M, .slice A R cap]) := (Blk.new _ _ _).alloc _
  have KR : Hid (Blk ((w.alloc (.cells #[.int .u64 S, .int .i64 M, .slice A R cap] 25)).alloc (.cells #[.int .u64 0, .int .i64 0, .slice none 0 0] 30)) (w.heap.size + 1) 30 #[.int .u64 0, .int .i64 0, .slice none 0 0]) := by
    have e := Blk.new (w.alloc (.cells #[.int .u64 S, .int .i64 M, .slice A R cap] 25)) 30 #[.int .u64 0, .int .i64 0, .slice none 0 0]
    simp only [World.size_alloc] at e
    exact e
  go_enter Try.func11, Try.ntmps11
  go_upto_region 1 with fail
  have X0 : ((w.alloc (.cells #[.int .u64 S, .int .i64 M, .slice A R cap] 25)).alloc (.cells #[.int .u64 0, .int .i64 0, .slice none 0 0] 30)).cell? ⟨w.heap.size, 0, none⟩ = some (.int .u64 S) := KX.out.cell 0
  have X1 : ((w.alloc (.cells #[.int .u64 S, .int .i64 M, .slice A R cap] 25)).alloc (.cells #[.int .u64 0, .int .i64 0, .slice none 0 0] 30)).cell? ⟨w.heap.size, 1, none⟩ = some (.int .i64 M) := KX.out.cell 1
  have X2 : ((w.alloc (.cells #[.int .u64 S, .int .i64 M, .slice A R cap] 25)).alloc (.cells #[.int .u64 0, .int .i64 0, .slice none 0 0] 30)).cell? ⟨w.heap.size, 2, none⟩ = some (.slice A R cap) := KX.out.cell 2
  have r0 : ((w.alloc (.cells #[.int .u64 S, .int .i64 M, .slice A R cap] 25)).alloc (.cells #[.int .u64 0, .int .i64 0, .slice none 0 0] 30)).cell? ⟨w.heap.size + 1, 0, none⟩ = some (.int .u64 0) := KR.out.cell 0
  have r1 : ((w.alloc (.cells #[.int .u64 S, .int .i64 M, .slice A R cap] 25)).alloc (.cells #[.int .u64 0, .int .i64 0, .slice none 0 0] 30)).cell? ⟨w.heap.size + 1, 1, none⟩ = some (.int .i64 0) := KR.out.cell 1
  have r2 : ((w.alloc (.cells #[.int .u64 S, .int .i64 M, .slice A R cap] 25)).alloc (.cells #[.int .u64 0, .int .i64 0, .slice none 0 0] 30)).cell? ⟨w.heap.size + 1, 2, none⟩ = some (.slice none 0 0) := KR.out.cell 2
  have z0 := KR.out.frozen 0
  have z1 := KR.out.frozen 1
  have z2 := KR.out.frozen 2
  generalize (w.alloc (.cells #[.int .u64 S, .int .i64 M, .slice A R cap] 25)).alloc (.cells #[.int .u64 0, .int .i64 0, .slice none 0 0] 30) = wq at X0 X1 X2 r0 r1 r2 z0 z1 z2 KR BW KX ⊢
  go_wp2_with fail
  refine bodyPost_ret (v := .agg #[.int .u64 S, .int .i64 M, .slice A R cap]) ?_ rfl ?_
  rotate_left
  · exact ⟨rfl, put3_below BW.out (by omega) _ _ _⟩
  have c3 := put3_blk (t := 30) (KR.out) (.int .u64 S) (.int .i64 M) (.slice A R cap)
  have c30 := c3.cell 0
  have c31 := c3.cell 1
  have c32 := c3.cell 2
  change (results _ _).run _ (put3 (wq) (w.heap.size + 1) (.int .u64 S) (.int .i64 M) (.slice A R cap)) = .ok _ (put3 (wq) (w.heap.size + 1) (.int .u64 S) (.int .i64 M) (.slice A R cap))
  generalize put3 (wq) (w.heap.size + 1) (.int .u64 S) (.int .i64 M) (.slice A R cap) = W5 at c30 c31 c32
  simp [results, Try.results11, go_sem, c30, c31, c32]
def FewP (n : Nat) (K : Nat → ByteArray) (q : Nat → Int) : Prop := n ≤ 40 ∧ ∀ i, i < n → (K i).size ≤ 100 ∧ 0 ≤ q i ∧ q i ≤ 1073741824
set_option maxHeartbeats 1600000 in
theorem few_any (w : World) (v : Value) (n : Nat) (K : Nat → ByteArray) (q : Nat → Int) (h : ItAt w v n K q) (hn : n ≤ 9223372036854775807) (hk : ∀ i, i < n → (K i).size ≤ 9223372036854775807) :
    Calls Try.prog 22 #[v] w (TellsW w (FewP n K q)) := by
  obtain ⟨A, cap, b, o, rfl, hx1, q3, q4⟩ := h
  have Q3 : Hid (0 < n → A = some ⟨b, o, none⟩) := q3
  have Q4 : Hid (∀ i, i < n → w.cell? ⟨b, o + i * 2, none⟩ = some (.string (K i)) ∧ w.cell? ⟨b, o + i * 2 + 1, none⟩ = some (.int .i64 (q i))) := q4
  have HL : Hid (∀ i, i < n → (K i).size ≤ 9223372036854775807) := hk
  clear hx1 q3 q4 hk
  go_enter Try.func22, Try.ntmps22
  go_wp2_with fail
  go_loop [6] (fun i => ∃ k : Nat, (k ≤ n ∧ ∀ j, j < k → (K j).size ≤ 100 ∧ 0 ≤ q j ∧ q j ≤ 1073741824) ∧ i = .int .i64 (k : Int)) (fun i => n - (intOf i).toNat)
  case atStart => exact ⟨0, ⟨by omega, fun j hj => by omega⟩, rfl⟩
  case round =>
    obtain ⟨k, hk, rfl⟩ := hrel
    have HK : Hid (k ≤ n ∧ ∀ j, j < k → (K j).size ≤ 100 ∧ 0 ≤ q j ∧ q j ≤ 1073741824) := hk
    have hkR := hk.1
    clear hk
    by_cases hz : k < n
    · obtain rfl := Q3.out (by omega)
      obtain ⟨c1, c2⟩ := Q4.out k hz
      have bk : (k : Int) < (n : Int) := by omega
      have bk0 : (0 : Int) ≤ (k : Int) := by omega
      have hs := HL.out k hz
      obtain ⟨s, hS⟩ : ∃ s, s = K k := ⟨_, rfl⟩
      obtain ⟨x, hx⟩ : ∃ x, x = q k := ⟨_, rfl⟩
      rw [← hS] at c1 hs
      rw [← hx] at c2
      have HS : Hid (s = K k ∧ x = q k) := ⟨hS, hx⟩
      clear hS hx
      by_cases e1 : s.size ≤ 100
      rotate_left
      · have e2 : (s.size : Int) > 100 := by omega
        go_wp2_with fail
        go_ret
        exact ⟨false, rfl, ⟨fun h => (by cases h), fun h => by have := (h.2 k hz).1; rw [← HS.out.1] at this; omega⟩, rfl⟩
      have e2 : ¬ (s.size : Int) > 100 := by omega
      by_cases e3 : x < 0
      · go_wp2_with fail
        go_ret
        exact ⟨false, rfl, ⟨fun h => (by cases h), fun h => by have := (h.2 k hz).2.1; rw [← HS.out.2] at this; omega⟩, rfl⟩
      by_cases e4 : x > 1073741824
      · go_wp2_with fail
        go_ret
        exact ⟨false, rfl, ⟨fun h => (by cases h), fun h => by have := (h.2 k hz).2.2; rw [← HS.out.2] at this; omega⟩, rfl⟩
      go_wp2_with fail
      go_round
      case rel =>
        refine ⟨k + 1, ⟨by omega, fun j hj => ?_⟩, by go_num⟩
        by_cases e : j = k
        · rw [e, ← HS.out.1, ← HS.out.2]; omega
        · exact HK.out.2 j (by omega)
      case measure => simp [intOf]; omega
    · by_cases e : n ≤ 40
      · have e2 : (n : Int) ≤ 40 := by omega
        go_wp2_with fail
        go_ret
        exact ⟨true, by first | rfl | simp [e], ⟨fun _ => ⟨e, fun r hr => HK.out.2 r (by omega)⟩, fun _ => rfl⟩, rfl⟩
      · have e2 : ¬ (n : Int) ≤ 40 := by omega
        go_wp2_with fail
        go_ret
        exact ⟨false, by first | rfl | simp [e], ⟨fun h => (by cases h), fun h => absurd h.1 (by omega)⟩, rfl⟩
/-- What the loop of adds keeps. -/
structure AddsIn (w wr : World) (X : List Nat) (S M : Int) (A : Option Addr) (cap R n : Nat) (Z : Nat → Nat → Int) : Prop where
  since : Below w.heap.size w wr
  box : Blk wr w.heap.size 25 #[.int .u64 S, .int .i64 M, .slice A R cap]
  res : Blk wr (w.heap.size + 1) 25 #[.int .u64 0, .int .i64 0, .slice none 0 0]
  sk : HeldX ((w.heap.size + 1) :: w.heap.size :: X) (fun u => SkAt u (.agg #[.int .u64 S, .int .i64 M, .slice A R cap]) S M R (fun _ => n) Z) wr
theorem AddsIn.next {w wr w1 w2 : World} {X : List Nat} {S M : Int} {A A2 : Option Addr} {cap cap2 R n : Nat} {Z Y : Nat → Nat → Int} (h : AddsIn w wr X S M A cap R n Z) (hX : ∀ g, g ∈ X → g < w.heap.size) (b1 : Below wr.heap.size wr w1) (b : Below w1.heap.size w1 w2)
    (k : Held (fun q => w1.heap.size ≤ q) (fun u => SkAt u (.agg #[.int .u64 S, .int .i64 M, .slice A2 R cap2]) S M R (fun _ => n) Y) w2) :
    AddsIn w (put3 w2 w.heap.size (.int .u64 S) (.int .i64 M) (.slice A2 R cap2)) X S M A2 cap2 R n Y := by
  have l := h.res.lt
  have bb := bel_trans b1 b
  have s1 := b1.size
  refine ⟨put3_below (bel_trans h.since bb) (Nat.le_refl _) _ _ _, put3_blk (h.box.since bb) _ _ _, put3_other (h.res.since bb) (by omega) _ _ _, ?_⟩
  rw [put3_eq]
  refine Held.put (k.mono fun q _ d m => ?_) (fun d => d (List.mem_cons_of_mem _ List.mem_cons_self))
  rcases List.mem_cons.1 m with m | m
  · omega
  · rcases List.mem_cons.1 m with m | m
    · omega
    · have := hX q m; omega
/-- A sketch that is told, away from such blocks. -/
def ToldX (X : List Nat) (w : World) (S M : Int) (R n : Nat) (Z : Nat → Nat → Int) (e : Ending) (w' : World) : Prop := ∃ A cap, e = .returned (.agg #[.int .u64 S, .int .i64 M, .slice A R cap]) ∧ HeldX X (fun u => SkAt u (.agg #[.int .u64 S, .int .i64 M, .slice A R cap]) S M R (fun _ => n) Z) w' ∧ Below w.heap.size w w'
set_option maxHeartbeats 3200000 in
theorem adds_any (w : World) (x v : Value) (X : List Nat) (S M : Int) (R n m : Nat) (Z : Nat → Nat → Int) (K : Nat → ByteArray) (q : Nat → Int) (h : HeldX X (fun u => SkAt u x S M R (fun _ => n) Z) w) (hX : ∀ g, g ∈ X → g < w.heap.size) (hl : ItAt w v m K q) (ok : OkP M R n Z) (uS : U S) (hm : m ≤ 1000) (hk : ∀ i, i < m → (K i).size ≤ 100 ∧ 0 ≤ q i ∧ q i ≤ 1073741824) :
    Calls Try.prog 23 #[x, v] w (ToldX X w S M R n (addsZ S M n Z K q m)) := by
  obtain ⟨v0, rfl, hv⟩ := h.at
  obtain ⟨A0, cap0, b, o, rfl, hc, hr⟩ := hv.read
  obtain ⟨A', cap', b', o', rfl, hc', q3, q4⟩ := hl
  have Q3 : Hid (0 < m → A' = some ⟨b', o', none⟩) := q3
  have Q4 : Hid (∀ i, i < m → w.cell? ⟨b', o' + i * 2, none⟩ = some (.string (K i)) ∧ w.cell? ⟨b', o' + i * 2 + 1, none⟩ = some (.int .i64 (q i))) := q4
  have HL : Hid (∀ i, i < m → (K i).size ≤ 100 ∧ 0 ≤ q i ∧ q i ≤ 1073741824) := hk
  have OK : Hid (∀ k, k ≤ m → OkP M R n (addsZ S M n Z K q k)) := fun k hkm => OkP.adds ok K (fun t ht => (hk t (by omega)).2.1)
  have HX : Hid (∀ g, g ∈ X → g < w.heap.size) := hX
  have AI : Hid (AddsIn w ((w.alloc (.cells #[.int .u64 S, .int .i64 M, .slice A0 R cap0] 25)).alloc (.cells #[.int .u64 0, .int .i64 0, .slice none 0 0] 25)) X S M A0 cap0 R n (addsZ S M n Z K q 0)) := by
    have e := Blk.new (w.alloc (.cells #[.int .u64 S, .int .i64 M, .slice A0 R cap0] 25)) 25 #[.int .u64 0, .int .i64 0, .slice none 0 0]
    simp only [World.size_alloc] at e
    have s := HeldX.alloc (HeldX.alloc h (.cells #[.int .u64 S, .int .i64 M, .slice A0 R cap0] 25)) (.cells #[.int .u64 0, .int .i64 0, .slice none 0 0] 25)
    simp only [World.size_alloc] at s
    exact ⟨(bel_alloc _ _).alloc (by simp) _, (Blk.new _ _ _).alloc _, e, s⟩
  clear h hv hr q3 q4 hk hX ok
  go_enter Try.func23, Try.ntmps23
  go_wp2_with fail
  generalize (w.alloc (.cells #[.int .u64 S, .int .i64 M, .slice A0 R cap0] 25)).alloc (.cells #[.int .u64 0, .int .i64 0, .slice none 0 0] 25) = u1 at AI ⊢
  go_loopg [9] m (fun gk i wr => ∃ (k : Nat) (A : Option Addr) (cap : Nat), (gk = m - k ∧ k ≤ m ∧ AddsIn w wr X S M A cap R n (addsZ S M n Z K q k)) ∧ i = .int .i64 (k : Int))
  case atStart => exact ⟨0, A0, cap0, ⟨rfl, by omega, AI.out⟩, rfl⟩
  case round =>
    clear AI
    obtain ⟨k, A, cap, ⟨hg, hk, hA⟩, rfl⟩ := hrel
    have HK : Hid (gk = m - k ∧ AddsIn w wr X S M A cap R n (addsZ S M n Z K q k)) := ⟨hg, hA⟩
    by_cases hlt : k < m
    · obtain rfl := Q3.out (by omega)
      obtain ⟨d1, d2⟩ := Q4.out k hlt
      have c1 : wr.cell? ⟨b', o' + k * 2, none⟩ = some (.string (K k)) := keep_of_below hA.since _ _ d1
      have c2 : wr.cell? ⟨b', o' + k * 2 + 1, none⟩ = some (.int .i64 (q k)) := keep_of_below hA.since _ _ d2
      have hb1 : (k : Int) < (m : Int) := by omega
      have hb0 : (0 : Int) ≤ (k : Int) := by omega
      have AC : Hid (∀ w1, Below wr.heap.size wr w1 → Calls Try.prog 15 #[.agg #[.int .u64 S, .int .i64 M, .slice A R cap], .string (K k), .int .i64 (q k)] w1 (GaveS w1 S M R n (addsZ S M n Z K q (k + 1)))) := fun w1 b1 => add_ok w1 _ S M R n _ (K k) (q k) (hA.sk.at.keep (keep_of_below b1)) (OK.out k (by omega)) uS (by have := HL.out k hlt; omega) (by have := HL.out k hlt; omega) (by have := HL.out k hlt; omega)
      have KX : Hid (∀ w1, Below wr.heap.size wr w1 → Blk w1 w.heap.size 25 #[.int .u64 S, .int .i64 M, .slice A R cap]) := fun w1 b1 => hA.box.since b1
      have lt : w.heap.size < wr.heap.size := hA.box.lt
      generalize K k = s at c1 AC d1
      generalize q k = z at c2 AC d2
      clear hg hA d1 d2
      go_upto_region 4 with fail
      have B1 : Hid (Below wr.heap.size wr (wr.alloc (.cells #[.string s, .int .i64 z] 51))) := bel_alloc _ _
      have KI : Hid (Blk (wr.alloc (.cells #[.string s, .int .i64 z] 51)) wr.heap.size 51 #[.string s, .int .i64 z]) := Blk.new _ _ _
      generalize wr.alloc (.cells #[.string s, .int .i64 z] 51) = w1 at B1 KI ⊢
      have K1 := KX.out _ B1.out
      have i0 : w1.cell? ⟨wr.heap.size, 0, none⟩ = some (.string s) := KI.out.cell 0
      have i1 : w1.cell? ⟨wr.heap.size, 1, none⟩ = some (.int .i64 z) := KI.out.cell 1
      have x0 : w1.cell? ⟨w.heap.size, 0, none⟩ = some (.int .u64 S) := K1.cell 0
      have x1 : w1.cell? ⟨w.heap.size, 1, none⟩ = some (.int .i64 M) := K1.cell 1
      have x2 : w1.cell? ⟨w.heap.size, 2, none⟩ = some (.slice A R cap) := K1.cell 2
      clear K1
      go_wp2_with fail
      refine (AC.out _ B1.out).mono ?_
      rintro e u2 ⟨x2, rfl, f2, b2⟩
      obtain ⟨v2, rfl, hb2⟩ := f2.at
      obtain ⟨A2, cap2, bb2, oo2, rfl, hx1, hx2⟩ := hb2.read
      clear hx1 hx2 hb2
      have NX : Hid (AddsIn w (put3 u2 w.heap.size (.int .u64 S) (.int .i64 M) (.slice A2 R cap2)) X S M A2 cap2 R n (addsZ S M n Z K q (k + 1))) := HK.out.2.next HX.out B1.out b2 f2
      have K2 := KX.out _ (bel_trans B1.out b2)
      clear x0 x1 x2 c1 c2 i0 i1
      have y0 : u2.cell? ⟨w.heap.size, 0, none⟩ = some (.int .u64 S) := K2.cell 0
      have y1 : u2.cell? ⟨w.heap.size, 1, none⟩ = some (.int .i64 M) := K2.cell 1
      have y2 : u2.cell? ⟨w.heap.size, 2, none⟩ = some (.slice A R cap) := K2.cell 2
      have z0 := K2.frozen 0
      have z1 := K2.frozen 1
      have z2 := K2.frozen 2
      clear K2 f2 b2 AC
      go_wp2_with fail
      go_roundg (m - (k + 1))
      case measure => have := HK.out.1; omega
      case rel => exact ⟨k + 1, A2, cap2, ⟨rfl, by omega, NX.out⟩, by go_num⟩
    · have e : k = m := by omega
      have HE : Hid (k = m) := e
      have hb1 : ¬ (k : Int) < (m : Int) := by omega
      have r0 : wr.cell? ⟨w.heap.size + 1, 0, none⟩ = some (.int .u64 0) := hA.res.cell 0
      have r1 : wr.cell? ⟨w.heap.size + 1, 1, none⟩ = some (.int .i64 0) := hA.res.cell 1
      have r2 : wr.cell? ⟨w.heap.size + 1, 2, none⟩ = some (.slice none 0 0) := hA.res.cell 2
      have x0 : wr.cell? ⟨w.heap.size, 0, none⟩ = some (.int .u64 S) := hA.box.cell 0
      have x1 : wr.cell? ⟨w.heap.size, 1, none⟩ = some (.int .i64 M) := hA.box.cell 1
      have x2 : wr.cell? ⟨w.heap.size, 2, none⟩ = some (.slice A R cap) := hA.box.cell 2
      have z0 := hA.res.frozen 0
      have z1 := hA.res.frozen 1
      have z2 := hA.res.frozen 2
      clear e hlt hg hA hk
      go_wp2_with fail
      have DF : HeldX X (fun u => SkAt u (.agg #[.int .u64 S, .int .i64 M, .slice A R cap]) S M R (fun _ => n) (addsZ S M n Z K q m)) (put3 wr (w.heap.size + 1) (.int .u64 S) (.int .i64 M) (.slice A R cap)) := by
        rw [put3_eq]
        have s := HK.out.2.sk
        rw [HE.out] at s
        have t : HeldX ((w.heap.size + 1) :: w.heap.size :: X) _ (putCells wr (w.heap.size + 1) 0 [.int .u64 S, .int .i64 M, .slice A R cap]) := Held.put s (fun d => d List.mem_cons_self)
        exact t.fewer fun p m => List.mem_cons_of_mem _ (List.mem_cons_of_mem _ m)
      refine bodyPost_ret (v := .agg #[.int .u64 S, .int .i64 M, .slice A R cap]) ?_ rfl ?_
      rotate_left
      · exact ⟨_, _, rfl, DF, put3_below HK.out.2.since (by omega) _ _ _⟩
      have c3 := put3_blk (t := 25) (HK.out.2.res) (.int .u64 S) (.int .i64 M) (.slice A R cap)
      have c30 := c3.cell 0
      have c31 := c3.cell 1
      have c32 := c3.cell 2
      change (results _ _).run _ (put3 (wr) (w.heap.size + 1) (.int .u64 S) (.int .i64 M) (.slice A R cap)) = .ok _ (put3 (wr) (w.heap.size + 1) (.int .u64 S) (.int .i64 M) (.slice A R cap))
      generalize put3 (wr) (w.heap.size + 1) (.int .u64 S) (.int .i64 M) (.slice A R cap) = W5 at c30 c31 c32
      simp [results, Try.results23, go_sem, c30, c31, c32]
theorem awake_num (s : ByteArray) : getF 255 (addZ 1 255 8 (addZ 1 255 8 (fun _ _ => 0) s 3) s 4) (placeN 1 s 8) 2 = 7 := by
  have e : ∀ i, addZ 1 255 8 (addZ 1 255 8 (fun _ _ => 0) s 3) s 4 i (placeN 1 s 8 i) = 7 := fun i => by
    unfold addZ
    rw [if_pos rfl, if_pos rfl]
    show capF (capF (0 + 3) 255 + 4) 255 = 7
    decide
  unfold getF getF getF
  rw [e, e]
  decide
theorem awake_ok : OkP 255 2 8 (fun _ _ => 0) := ok_none (S := 1) (by decide)
set_option maxHeartbeats 3200000 in
theorem awake_any (w : World) : Calls Try.prog 12 #[] w fun e w' => e = .returned (.bool true) ∧ Below w.heap.size w w' := by
  go_enter Try.func12, Try.ntmps12
  go_wp2_with fail
  refine (new_ok 1 255 2 8 _ (by decide)).mono ?_
  rintro e u1 ⟨x1, rfl, f1, b1⟩
  have B1 : Hid (Below w.heap.size w u1) := b1
  have F1 : Hid (SkAt u1 x1 1 255 2 (fun _ => 8) (fun _ _ => 0)) := f1.at
  obtain ⟨v1, rfl, hv1⟩ := f1.at
  obtain ⟨A1, cap1, bb1, oo1, rfl, hx1, hx2⟩ := hv1.read
  clear hx1 hx2 hv1 f1 b1
  have BW : Hid (Below w.heap.size w (u1.alloc (.cells #[.int .u64 1, .int .i64 255, .slice A1 2 cap1] 25))) := bel_trans B1.out (bel_alloc _ _)
  have FW : Hid (SkAt (u1.alloc (.cells #[.int .u64 1, .int .i64 255, .slice A1 2 cap1] 25)) (.agg #[.int .u64 1, .int .i64 255, .slice A1 2 cap1]) 1 255 2 (fun _ => 8) (fun _ _ => 0)) := F1.out.keep (keep_of_below (bel_alloc _ _))
  have KW : Hid (Blk (u1.alloc (.cells #[.int .u64 1, .int .i64 255, .slice A1 2 cap1] 25)) u1.heap.size 25 #[.int .u64 1, .int .i64 255, .slice A1 2 cap1]) := Blk.new _ _ _
  have LE : Hid (w.heap.size ≤ u1.heap.size) := B1.out.size
  go_wp2_with fail
  refine (add_ok _ _ 1 255 2 8 _ _ 3 FW.out awake_ok ⟨by omega, by omega⟩ (by decide) (by omega) (by omega)).mono ?_
  rintro e u2 ⟨x2, rfl, f2, b2⟩
  have B2 : Hid (Below w.heap.size w u2) := bel_trans BW.out b2
  obtain ⟨v2, rfl, hv2⟩ := f2.at
  obtain ⟨A2, cap2, bb2, oo2, rfl, hx1, hx2⟩ := hv2.read
  clear hx1 hx2 hv2
  have K2 : Hid (Blk u2 u1.heap.size 25 #[.int .u64 1, .int .i64 255, .slice A1 2 cap1]) := KW.out.since b2
  have FP2 : Hid (SkAt (put3 u2 u1.heap.size (.int .u64 1) (.int .i64 255) (.slice A2 2 cap2)) (.agg #[.int .u64 1, .int .i64 255, .slice A2 2 cap2]) 1 255 2 (fun _ => 8) (addZ 1 255 8 (fun _ _ => 0) ⟨#[97]⟩ 3)) := by
    rw [put3_eq]
    have lt := KW.out.lt
    exact (Held.put f2 (by omega)).at
  have BP2 : Hid (Below w.heap.size w (put3 u2 u1.heap.size (.int .u64 1) (.int .i64 255) (.slice A2 2 cap2))) := put3_below B2.out LE.out _ _ _
  have KP2 : Hid (Blk (put3 u2 u1.heap.size (.int .u64 1) (.int .i64 255) (.slice A2 2 cap2)) u1.heap.size 25 #[.int .u64 1, .int .i64 255, .slice A2 2 cap2]) := put3_blk K2.out _ _ _
  have x0 : u2.cell? ⟨u1.heap.size, 0, none⟩ = some (.int .u64 1) := K2.out.cell 0
  have x1 : u2.cell? ⟨u1.heap.size, 1, none⟩ = some (.int .i64 255) := K2.out.cell 1
  have x2 : u2.cell? ⟨u1.heap.size, 2, none⟩ = some (.slice A1 2 cap1) := K2.out.cell 2
  have z0 := K2.out.frozen 0
  have z1 := K2.out.frozen 1
  have z2 := K2.out.frozen 2
  clear f2 b2
  go_wp2_with fail
  clear x0 x1 x2 z0 z1 z2
  refine (add_ok _ _ 1 255 2 8 _ _ 4 FP2.out (awake_ok.add _ (by omega)) ⟨by omega, by omega⟩ (by decide) (by omega) (by omega)).mono ?_
  rintro e u3 ⟨x3, rfl, f3, b3⟩
  have B3 : Hid (Below w.heap.size w u3) := bel_trans BP2.out b3
  obtain ⟨v3, rfl, hv3⟩ := f3.at
  obtain ⟨A3, cap3, bb3, oo3, rfl, hx1, hx2⟩ := hv3.read
  clear hx1 hx2 hv3
  have K3 : Hid (Blk u3 u1.heap.size 25 #[.int .u64 1, .int .i64 255, .slice A2 2 cap2]) := KP2.out.since b3
  have FP3 : Hid (SkAt (put3 u3 u1.heap.size (.int .u64 1) (.int .i64 255) (.slice A3 2 cap3)) (.agg #[.int .u64 1, .int .i64 255, .slice A3 2 cap3]) 1 255 2 (fun _ => 8) (addZ 1 255 8 (addZ 1 255 8 (fun _ _ => 0) ⟨#[97]⟩ 3) ⟨#[97]⟩ 4)) := by
    rw [put3_eq]
    have lt := KP2.out.lt
    exact (Held.put f3 (by omega)).at
  have BP3 : Hid (Below w.heap.size w (put3 u3 u1.heap.size (.int .u64 1) (.int .i64 255) (.slice A3 2 cap3))) := put3_below B3.out LE.out _ _ _
  have KP3 : Hid (Blk (put3 u3 u1.heap.size (.int .u64 1) (.int .i64 255) (.slice A3 2 cap3)) u1.heap.size 25 #[.int .u64 1, .int .i64 255, .slice A3 2 cap3]) := put3_blk K3.out _ _ _
  have x0 : u3.cell? ⟨u1.heap.size, 0, none⟩ = some (.int .u64 1) := K3.out.cell 0
  have x1 : u3.cell? ⟨u1.heap.size, 1, none⟩ = some (.int .i64 255) := K3.out.cell 1
  have x2 : u3.cell? ⟨u1.heap.size, 2, none⟩ = some (.slice A2 2 cap2) := K3.out.cell 2
  have z0 := K3.out.frozen 0
  have z1 := K3.out.frozen 1
  have z2 := K3.out.frozen 2
  clear f3 b3
  go_wp2_with fail
  clear x0 x1 x2 z0 z1 z2
  refine (get_ok _ _ 1 255 2 8 _ _ FP3.out ((awake_ok.add _ (by omega)).add _ (by omega)) ⟨by omega, by omega⟩ (by decide)).mono ?_
  rw [awake_num]
  rintro e u4 ⟨rfl, b4⟩
  have B4 : Hid (Below w.heap.size w u4) := bel_trans BP3.out b4
  clear b4
  go_wp2_with fail
  go_ret
  exact ⟨rfl, B4.out⟩
end Go.Proofs.Ytmlokipmcgnllaa
