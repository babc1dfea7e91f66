
/-
  What the laws of layer 12 call of their own: ref, awake, few, adds.
-/
import Derived.Test.YtpjpgcjlbfgkdaaSgnGet
import Derived.Test.YtpjpgcjlbfgkdaaSgnOpen
import Derived.Deep.Cut
import Derived.Deep.CutRange
namespace Go.Proofs.Ytpjpgcjlbfgkdaa
open Go.RowKit Fm Bl Sg L2 Go.Deep
set_option linter.unusedVariables false

theorem told {w : World} {P : Prop} {e : Ending} {w' : World} (h : TellsB w P e w') (b : Bool) (hb : b = true ↔ P) : e = .returned (.bool b) ∧ Below w.heap.size w w' := by
  obtain ⟨c, h1, h2, h3⟩ := h
  refine ⟨?_, h3⟩
  rw [h1]
  cases b <;> cases c <;> simp_all
theorem okG_none {R n : Nat} (hf : fitsS R n = true) : OkG R n (fun _ _ => 0) := by
  have h := (fitsS_iff _ _).1 hf
  exact ⟨by omega, by omega, by omega, by omega, by omega, fun i _ j _ => ⟨show (-1099511627776 : Int) ≤ 0 by omega, show (0 : Int) ≤ 1099511627776 by omega⟩⟩
set_option maxHeartbeats 800000 in
theorem gref_any (w : World) (x : Value) (S : Int) (R : Nat) (L : Nat → Nat) (Z : Nat → Nat → Int) (h : SgAt w x S R L Z) : Calls Try.prog 11 #[x] w fun e w' => e = .returned x ∧ Below w.heap.size w w' := by
  obtain ⟨v, rfl, hv⟩ := h
  obtain ⟨A, cap, b, o, rfl, hc, hr⟩ := hv.read
  clear hv hr
  have BW : Hid (Below w.heap.size w ((w.alloc (.cells #[.int .u64 S, .slice A R cap] 25)).alloc (.cells #[.int .u64 0, .slice none 0 0] 30))) := (bel_alloc _ _).alloc (by simp) _
  have KX : Hid (Blk ((w.alloc (.cells #[.int .u64 S, .slice A R cap] 25)).alloc (.cells #[.int .u64 0, .slice none 0 0] 30)) w.heap.size 25 #[.int .u64 S, .slice A R cap]) := (Blk.new _ _ _).alloc _
  have KR : Hid (Blk ((w.alloc (.cells #[.int .u64 S, .slice A R cap] 25)).alloc (.cells #[.int .u64 0, .slice none 0 0] 30)) (w.heap.size + 1) 30 #[.int .u64 0, .slice none 0 0]) := by
    have e := Blk.new (w.alloc (.cells #[.int .u64 S, .slice A R cap] 25)) 30 #[.int .u64 0, .slice none 0 0]
    simp only [World.size_alloc] at e
    exact e
  go_enter Try.func11, Try.ntmps11
  go_upto_region 1 with fail
  have X0 : ((w.alloc (.cells #[.int .u64 S, .slice A R cap] 25)).alloc (.cells #[.int .u64 0, .slice none 0 0] 30)).cell? ⟨w.heap.size, 0, none⟩ = some (.int .u64 S) := KX.out.cell 0
  have X2 : ((w.alloc (.cells #[.int .u64 S, .slice A R cap] 25)).alloc (.cells #[.int .u64 0, .slice none 0 0] 30)).cell? ⟨w.heap.size, 1, none⟩ = some (.slice A R cap) := KX.out.cell 1
  have r0 : ((w.alloc (.cells #[.int .u64 S, .slice A R cap] 25)).alloc (.cells #[.int .u64 0, .slice none 0 0] 30)).cell? ⟨w.heap.size + 1, 0, none⟩ = some (.int .u64 0) := KR.out.cell 0
  have r2 : ((w.alloc (.cells #[.int .u64 S, .slice A R cap] 25)).alloc (.cells #[.int .u64 0, .slice none 0 0] 30)).cell? ⟨w.heap.size + 1, 1, none⟩ = some (.slice none 0 0) := KR.out.cell 1
  have z0 := KR.out.frozen 0
  have z1 := KR.out.frozen 1
  generalize (w.alloc (.cells #[.int .u64 S, .slice A R cap] 25)).alloc (.cells #[.int .u64 0, .slice none 0 0] 30) = wq at X0 X2 r0 r2 z0 z1 KR BW KX ⊢
  go_wp2_with fail
  refine bodyPost_ret (v := .agg #[.int .u64 S, .slice A R cap]) ?_ rfl ?_
  rotate_left
  · exact ⟨rfl, put2_below BW.out (by omega) _ _⟩
  have c3 := put2_blk (t := 30) (KR.out) (.int .u64 S) (.slice A R cap)
  have c30 := c3.cell 0
  have c31 := c3.cell 1
  change (results _ _).run _ (put2 (wq) (w.heap.size + 1) (.int .u64 S) (.slice A R cap)) = .ok _ (put2 (wq) (w.heap.size + 1) (.int .u64 S) (.slice A R cap))
  generalize put2 (wq) (w.heap.size + 1) (.int .u64 S) (.slice A R cap) = W5 at c30 c31
  simp [results, Try.results11, go_sem, c30, c31]
def FewG (n : Nat) (K : Nat → ByteArray) (q : Nat → Int) : Prop := n ≤ 40 ∧ ∀ i, i < n → (K i).size ≤ 100 ∧ -1073741824 ≤ q i ∧ q i ≤ 1073741824
set_option maxHeartbeats 1600000 in
theorem gfew_any (w : World) (v : Value) (n : Nat) (K : Nat → ByteArray) (q : Nat → Int) (h : ItAt w v n K q) (hn : n ≤ 9223372036854775807) (hk : ∀ i, i < n → (K i).size ≤ 9223372036854775807) :
    Calls Try.prog 25 #[v] w (TellsW w (FewG n K q)) := by
  obtain ⟨A, cap, b, o, rfl, hx1, q3, q4⟩ := h
  have Q3 : Hid (0 < n → A = some ⟨b, o, none⟩) := q3
  have Q4 : Hid (∀ i, i < n → w.cell? ⟨b, o + i * 2, none⟩ = some (.string (K i)) ∧ w.cell? ⟨b, o + i * 2 + 1, none⟩ = some (.int .i64 (q i))) := q4
  have HL : Hid (∀ i, i < n → (K i).size ≤ 9223372036854775807) := hk
  clear hx1 q3 q4 hk
  go_enter Try.func25, Try.ntmps25
  go_wp2_with fail
  go_loop [6] (fun i => ∃ k : Nat, (k ≤ n ∧ ∀ j, j < k → (K j).size ≤ 100 ∧ -1073741824 ≤ q j ∧ q j ≤ 1073741824) ∧ i = .int .i64 (k : Int)) (fun i => n - (intOf i).toNat)
  case atStart => exact ⟨0, ⟨by omega, fun j hj => by omega⟩, rfl⟩
  case round =>
    obtain ⟨k, hk, rfl⟩ := hrel
    have HK : Hid (k ≤ n ∧ ∀ j, j < k → (K j).size ≤ 100 ∧ -1073741824 ≤ q j ∧ q j ≤ 1073741824) := hk
    have hkR := hk.1
    clear hk
    by_cases hz : k < n
    · obtain rfl := Q3.out (by omega)
      obtain ⟨c1, c2⟩ := Q4.out k hz
      have bk : (k : Int) < (n : Int) := by omega
      have bk0 : (0 : Int) ≤ (k : Int) := by omega
      have hs := HL.out k hz
      obtain ⟨s, hS⟩ : ∃ s, s = K k := ⟨_, rfl⟩
      obtain ⟨x, hx⟩ : ∃ x, x = q k := ⟨_, rfl⟩
      rw [← hS] at c1 hs
      rw [← hx] at c2
      have HS : Hid (s = K k ∧ x = q k) := ⟨hS, hx⟩
      clear hS hx
      by_cases e1 : s.size ≤ 100
      rotate_left
      · have e2 : (s.size : Int) > 100 := by omega
        go_wp2_with fail
        go_ret
        exact ⟨false, rfl, ⟨fun h => (by cases h), fun h => by have := (h.2 k hz).1; rw [← HS.out.1] at this; omega⟩, rfl⟩
      have e2 : ¬ (s.size : Int) > 100 := by omega
      by_cases e3 : x < -1073741824
      · go_wp2_with fail
        go_ret
        exact ⟨false, rfl, ⟨fun h => (by cases h), fun h => by have := (h.2 k hz).2.1; rw [← HS.out.2] at this; omega⟩, rfl⟩
      by_cases e4 : x > 1073741824
      · go_wp2_with fail
        go_ret
        exact ⟨false, rfl, ⟨fun h => (by cases h), fun h => by have := (h.2 k hz).2.2; rw [← HS.out.2] at this; omega⟩, rfl⟩
      go_wp2_with fail
      go_round
      case rel =>
        refine ⟨k + 1, ⟨by omega, fun j hj => ?_⟩, by go_num⟩
        by_cases e : j = k
        · rw [e, ← HS.out.1, ← HS.out.2]; omega
        · exact HK.out.2 j (by omega)
      case measure => simp [intOf]; omega
    · by_cases e : n ≤ 40
      · have e2 : (n : Int) ≤ 40 := by omega
        go_wp2_with fail
        go_ret
        exact ⟨true, by first | rfl | simp [e], ⟨fun _ => ⟨e, fun r hr => HK.out.2 r (by omega)⟩, fun _ => rfl⟩, rfl⟩
      · have e2 : ¬ (n : Int) ≤ 40 := by omega
        go_wp2_with fail
        go_ret
        exact ⟨false, by first | rfl | simp [e], ⟨fun h => (by cases h), fun h => absurd h.1 (by omega)⟩, rfl⟩
/-- What the loop of adds keeps. -/
structure AddsG (w wr : World) (X : List Nat) (S : Int) (A : Option Addr) (cap R n : Nat) (Z : Nat → Nat → Int) : Prop where
  since : Below w.heap.size w wr
  box : Blk wr w.heap.size 25 #[.int .u64 S, .slice A R cap]
  res : Blk wr (w.heap.size + 1) 25 #[.int .u64 0, .slice none 0 0]
  sk : HeldX ((w.heap.size + 1) :: w.heap.size :: X) (fun u => SgAt u (.agg #[.int .u64 S, .slice A R cap]) S R (fun _ => n) Z) wr
theorem AddsG.next {w wr w1 w2 : World} {X : List Nat} {S : Int} {A A2 : Option Addr} {cap cap2 R n : Nat} {Z Y : Nat → Nat → Int} (h : AddsG w wr X S A cap R n Z) (hX : ∀ g, g ∈ X → g < w.heap.size) (b1 : Below wr.heap.size wr w1) (b : Below w1.heap.size w1 w2)
    (k : Held (fun q => w1.heap.size ≤ q) (fun u => SgAt u (.agg #[.int .u64 S, .slice A2 R cap2]) S R (fun _ => n) Y) w2) :
    AddsG w (put2 w2 w.heap.size (.int .u64 S) (.slice A2 R cap2)) X S A2 cap2 R n Y := by
  have l := h.res.lt
  have bb := bel_trans b1 b
  have s1 := b1.size
  refine ⟨put2_below (bel_trans h.since bb) (Nat.le_refl _) _ _, put2_blk (h.box.since bb) _ _, put2_other (h.res.since bb) (by omega) _ _, ?_⟩
  rw [put2_eq]
  refine Held.put (k.mono fun q _ d m => ?_) (fun d => d (List.mem_cons_of_mem _ List.mem_cons_self))
  rcases List.mem_cons.1 m with m | m
  · omega
  · rcases List.mem_cons.1 m with m | m
    · omega
    · have := hX q m; omega
/-- A sketch that is told, away from such blocks. -/
def ToldGX (X : List Nat) (w : World) (S : Int) (R n : Nat) (Z : Nat → Nat → Int) (e : Ending) (w' : World) : Prop := ∃ A cap, e = .returned (.agg #[.int .u64 S, .slice A R cap]) ∧ HeldX X (fun u => SgAt u (.agg #[.int .u64 S, .slice A R cap]) S R (fun _ => n) Z) w' ∧ Below w.heap.size w w'
set_option maxHeartbeats 3200000 in
theorem gadds_any (w : World) (x v : Value) (X : List Nat) (S : Int) (R n m : Nat) (Z : Nat → Nat → Int) (K : Nat → ByteArray) (q : Nat → Int) (h : HeldX X (fun u => SgAt u x S R (fun _ => n) Z) w) (hX : ∀ g, g ∈ X → g < w.heap.size) (hl : ItAt w v m K q) (ok : ∀ k, k ≤ m → OkG R n (addsG S n Z K q k)) (uS : U S) (hm : m ≤ 1000) (hk : ∀ i, i < m → (K i).size ≤ 100 ∧ -1073741824 ≤ q i ∧ q i ≤ 1073741824) :
    Calls Try.prog 26 #[x, v] w (ToldGX X w S R n (addsG S n Z K q m)) := by
  obtain ⟨v0, rfl, hv⟩ := h.at
  obtain ⟨A0, cap0, b, o, rfl, hc, hr⟩ := hv.read
  obtain ⟨A', cap', b', o', rfl, hc', q3, q4⟩ := hl
  have Q3 : Hid (0 < m → A' = some ⟨b', o', none⟩) := q3
  have Q4 : Hid (∀ i, i < m → w.cell? ⟨b', o' + i * 2, none⟩ = some (.string (K i)) ∧ w.cell? ⟨b', o' + i * 2 + 1, none⟩ = some (.int .i64 (q i))) := q4
  have HL : Hid (∀ i, i < m → (K i).size ≤ 100 ∧ -1073741824 ≤ q i ∧ q i ≤ 1073741824) := hk
  have OK : Hid (∀ k, k ≤ m → OkG R n (addsG S n Z K q k)) := ok
  have HX : Hid (∀ g, g ∈ X → g < w.heap.size) := hX
  have AI : Hid (AddsG w ((w.alloc (.cells #[.int .u64 S, .slice A0 R cap0] 25)).alloc (.cells #[.int .u64 0, .slice none 0 0] 25)) X S A0 cap0 R n (addsG S n Z K q 0)) := by
    have e := Blk.new (w.alloc (.cells #[.int .u64 S, .slice A0 R cap0] 25)) 25 #[.int .u64 0, .slice none 0 0]
    simp only [World.size_alloc] at e
    have s := HeldX.alloc (HeldX.alloc h (.cells #[.int .u64 S, .slice A0 R cap0] 25)) (.cells #[.int .u64 0, .slice none 0 0] 25)
    simp only [World.size_alloc] at s
    exact ⟨(bel_alloc _ _).alloc (by simp) _, (Blk.new _ _ _).alloc _, e, s⟩
  clear h hv hr q3 q4 hk hX ok
  go_enter Try.func26, Try.ntmps26
  go_wp2_with fail
  generalize (w.alloc (.cells #[.int .u64 S, .slice A0 R cap0] 25)).alloc (.cells #[.int .u64 0, .slice none 0 0] 25) = u1 at AI ⊢
  go_loopg [9] m (fun gk i wr => ∃ (k : Nat) (A : Option Addr) (cap : Nat), (gk = m - k ∧ k ≤ m ∧ AddsG w wr X S A cap R n (addsG S n Z K q k)) ∧ i = .int .i64 (k : Int))
  case atStart => exact ⟨0, A0, cap0, ⟨rfl, by omega, AI.out⟩, rfl⟩
  case round =>
    clear AI
    obtain ⟨k, A, cap, ⟨hg, hk, hA⟩, rfl⟩ := hrel
    have HK : Hid (gk = m - k ∧ AddsG w wr X S A cap R n (addsG S n Z K q k)) := ⟨hg, hA⟩
    by_cases hlt : k < m
    · obtain rfl := Q3.out (by omega)
      obtain ⟨d1, d2⟩ := Q4.out k hlt
      have c1 : wr.cell? ⟨b', o' + k * 2, none⟩ = some (.string (K k)) := keep_of_below hA.since _ _ d1
      have c2 : wr.cell? ⟨b', o' + k * 2 + 1, none⟩ = some (.int .i64 (q k)) := keep_of_below hA.since _ _ d2
      have hb1 : (k : Int) < (m : Int) := by omega
      have hb0 : (0 : Int) ≤ (k : Int) := by omega
      have AC : Hid (∀ w1, Below wr.heap.size wr w1 → Calls Try.prog 15 #[.agg #[.int .u64 S, .slice A R cap], .string (K k), .int .i64 (q k)] w1 (GaveG w1 S R n (addsG S n Z K q (k + 1)))) := fun w1 b1 => (gadd_any w1 _ S R n _ (K k) (q k) (hA.sk.at.keep (keep_of_below b1)) (OK.out k (by omega)) uS (by have := HL.out k hlt; omega) ⟨by have := HL.out k hlt; omega, by have := HL.out k hlt; omega⟩).mono fun e w' h => h.1 (OK.out (k + 1) (by omega))
      have KX : Hid (∀ w1, Below wr.heap.size wr w1 → Blk w1 w.heap.size 25 #[.int .u64 S, .slice A R cap]) := fun w1 b1 => hA.box.since b1
      have lt : w.heap.size < wr.heap.size := hA.box.lt
      generalize K k = s at c1 AC d1
      generalize q k = z at c2 AC d2
      clear hg hA d1 d2
      go_upto_region 4 with fail
      have B1 : Hid (Below wr.heap.size wr (wr.alloc (.cells #[.string s, .int .i64 z] 54))) := bel_alloc _ _
      have KI : Hid (Blk (wr.alloc (.cells #[.string s, .int .i64 z] 54)) wr.heap.size 54 #[.string s, .int .i64 z]) := Blk.new _ _ _
      generalize wr.alloc (.cells #[.string s, .int .i64 z] 54) = w1 at B1 KI ⊢
      have K1 := KX.out _ B1.out
      have i0 : w1.cell? ⟨wr.heap.size, 0, none⟩ = some (.string s) := KI.out.cell 0
      have i1 : w1.cell? ⟨wr.heap.size, 1, none⟩ = some (.int .i64 z) := KI.out.cell 1
      have x0 : w1.cell? ⟨w.heap.size, 0, none⟩ = some (.int .u64 S) := K1.cell 0
      have x2 : w1.cell? ⟨w.heap.size, 1, none⟩ = some (.slice A R cap) := K1.cell 1
      clear K1
      go_wp2_with fail
      refine (AC.out _ B1.out).mono ?_
      rintro e u2 ⟨xx2, rfl, f2, b2⟩
      obtain ⟨v2, rfl, hb2⟩ := f2.at
      obtain ⟨A2, cap2, bb2, oo2, rfl, hx1, hx2⟩ := hb2.read
      clear hx1 hx2 hb2
      have NX : Hid (AddsG w (put2 u2 w.heap.size (.int .u64 S) (.slice A2 R cap2)) X S A2 cap2 R n (addsG S n Z K q (k + 1))) := HK.out.2.next HX.out B1.out b2 f2
      have K2 := KX.out _ (bel_trans B1.out b2)
      clear x0 x2 c1 c2 i0 i1
      have y0 : u2.cell? ⟨w.heap.size, 0, none⟩ = some (.int .u64 S) := K2.cell 0
      have y2 : u2.cell? ⟨w.heap.size, 1, none⟩ = some (.slice A R cap) := K2.cell 1
      have z0 := K2.frozen 0
      have z1 := K2.frozen 1
      clear K2 f2 b2 AC
      go_wp2_with fail
      go_roundg (m - (k + 1))
      case measure => have := HK.out.1; omega
      case rel => exact ⟨k + 1, A2, cap2, ⟨rfl, by omega, NX.out⟩, by go_num⟩
    · have e : k = m := by omega
      have HE : Hid (k = m) := e
      have hb1 : ¬ (k : Int) < (m : Int) := by omega
      have r0 : wr.cell? ⟨w.heap.size + 1, 0, none⟩ = some (.int .u64 0) := hA.res.cell 0
      have r2 : wr.cell? ⟨w.heap.size + 1, 1, none⟩ = some (.slice none 0 0) := hA.res.cell 1
      have x0 : wr.cell? ⟨w.heap.size, 0, none⟩ = some (.int .u64 S) := hA.box.cell 0
      have x2 : wr.cell? ⟨w.heap.size, 1, none⟩ = some (.slice A R cap) := hA.box.cell 1
      have z0 := hA.res.frozen 0
      have z1 := hA.res.frozen 1
      clear e hlt hg hA hk
      go_wp2_with fail
      have DF : HeldX X (fun u => SgAt u (.agg #[.int .u64 S, .slice A R cap]) S R (fun _ => n) (addsG S n Z K q m)) (put2 wr (w.heap.size + 1) (.int .u64 S) (.slice A R cap)) := by
        rw [put2_eq]
        have s := HK.out.2.sk
        rw [HE.out] at s
        have t : HeldX ((w.heap.size + 1) :: w.heap.size :: X) _ (putCells wr (w.heap.size + 1) 0 [.int .u64 S, .slice A R cap]) := Held.put s (fun d => d List.mem_cons_self)
        exact t.fewer fun p m => List.mem_cons_of_mem _ (List.mem_cons_of_mem _ m)
      refine bodyPost_ret (v := .agg #[.int .u64 S, .slice A R cap]) ?_ rfl ?_
      rotate_left
      · exact ⟨_, _, rfl, DF, put2_below HK.out.2.since (by omega) _ _⟩
      have c3 := put2_blk (t := 25) (HK.out.2.res) (.int .u64 S) (.slice A R cap)
      have c30 := c3.cell 0
      have c31 := c3.cell 1
      change (results _ _).run _ (put2 (wr) (w.heap.size + 1) (.int .u64 S) (.slice A R cap)) = .ok _ (put2 (wr) (w.heap.size + 1) (.int .u64 S) (.slice A R cap))
      generalize put2 (wr) (w.heap.size + 1) (.int .u64 S) (.slice A R cap) = W5 at c30 c31
      simp [results, Try.results26, go_sem, c30, c31]
theorem gawake_ok : OkG 3 8 (fun _ _ => 0) := okG_none (by decide)
theorem gawake_bound (s : ByteArray) {q a : Int} (h : -a ≤ q ∧ q ≤ a) (ha : a + 5 ≤ 1099511627776) (h0 : 0 ≤ a) : OkG 3 8 (addG 1 8 (fun _ _ => 0) s q) := by
  refine ⟨by omega, by omega, rfl, by omega, by omega, fun i _ j _ => ?_⟩
  have := addG_bound (S := 1) (n := 8) (Z := fun _ _ => 0) (i := i) (j := j) s (a := 0) (b := a) ⟨by omega, by omega⟩ h h0
  exact ⟨by omega, by omega⟩
theorem gawake_ok2 (s : ByteArray) : OkG 3 8 (addG 1 8 (addG 1 8 (fun _ _ => 0) s 5) s (-2)) := (gawake_bound s (q := 3) (a := 3) (by omega) (by omega) (by omega)).congr fun i j _ _ => by rw [addG_twice]; rfl
theorem gawake_num (s : ByteArray) : getG 1 3 8 (addG 1 8 (addG 1 8 (fun _ _ => 0) s 5) s (-2)) s = 3 := by
  rw [getG_add (gawake_bound s (q := 5) (a := 5) (by omega) (by omega) (by omega)), getG_add gawake_ok]
  have : getG 1 3 8 (fun _ _ => 0) s = 0 := by
    obtain ⟨i, _, e⟩ := midF_mem (f := ownG 1 8 (fun _ _ => 0) s) (R := 3) (by omega)
    unfold getG
    rw [← e]
    unfold ownG
    exact Int.zero_mul _
  omega
set_option maxHeartbeats 3200000 in
theorem gawake_any (w : World) : Calls Try.prog 12 #[] w fun e w' => e = .returned (.bool true) ∧ Below w.heap.size w w' := by
  go_enter Try.func12, Try.ntmps12
  go_wp2_with fail
  refine (gnew_ok 1 3 8 _ (by decide)).mono ?_
  rintro e u1 ⟨xx1, rfl, f1, b1⟩
  have B1 : Hid (Below w.heap.size w u1) := b1
  have F1 : Hid (SgAt u1 xx1 1 3 (fun _ => 8) (fun _ _ => 0)) := f1.at
  obtain ⟨v1, rfl, hv1⟩ := f1.at
  obtain ⟨A1, cap1, bb1, oo1, rfl, hx1, hx2⟩ := hv1.read
  clear hx1 hx2 hv1 f1 b1
  have BW : Hid (Below w.heap.size w (u1.alloc (.cells #[.int .u64 1, .slice A1 3 cap1] 25))) := bel_trans B1.out (bel_alloc _ _)
  have FW : Hid (SgAt (u1.alloc (.cells #[.int .u64 1, .slice A1 3 cap1] 25)) (.agg #[.int .u64 1, .slice A1 3 cap1]) 1 3 (fun _ => 8) (fun _ _ => 0)) := F1.out.keep (keep_of_below (bel_alloc _ _))
  have KW : Hid (Blk (u1.alloc (.cells #[.int .u64 1, .slice A1 3 cap1] 25)) u1.heap.size 25 #[.int .u64 1, .slice A1 3 cap1]) := Blk.new _ _ _
  have LE : Hid (w.heap.size ≤ u1.heap.size) := B1.out.size
  go_wp2_with fail
  refine ((gadd_any _ _ 1 3 8 _ _ 5 FW.out gawake_ok ⟨by omega, by omega⟩ (by decide) ⟨by omega, by omega⟩).mono fun _ _ h => h.1 (gawake_bound _ (q := 5) (a := 5) (by omega) (by omega) (by omega))).mono ?_
  rintro e u2 ⟨xx2, rfl, f2, b2⟩
  have B2 : Hid (Below w.heap.size w u2) := bel_trans BW.out b2
  obtain ⟨v2, rfl, hv2⟩ := f2.at
  obtain ⟨A2, cap2, bb2, oo2, rfl, hx1, hx2⟩ := hv2.read
  clear hx1 hx2 hv2
  have K2 : Hid (Blk u2 u1.heap.size 25 #[.int .u64 1, .slice A1 3 cap1]) := KW.out.since b2
  have FP2 : Hid (SgAt (put2 u2 u1.heap.size (.int .u64 1) (.slice A2 3 cap2)) (.agg #[.int .u64 1, .slice A2 3 cap2]) 1 3 (fun _ => 8) (addG 1 8 (fun _ _ => 0) ⟨#[97]⟩ 5)) := by
    rw [put2_eq]
    have lt := KW.out.lt
    exact (Held.put f2 (by omega)).at
  have BP2 : Hid (Below w.heap.size w (put2 u2 u1.heap.size (.int .u64 1) (.slice A2 3 cap2))) := put2_below B2.out LE.out _ _
  have KP2 : Hid (Blk (put2 u2 u1.heap.size (.int .u64 1) (.slice A2 3 cap2)) u1.heap.size 25 #[.int .u64 1, .slice A2 3 cap2]) := put2_blk K2.out _ _
  have x0 : u2.cell? ⟨u1.heap.size, 0, none⟩ = some (.int .u64 1) := K2.out.cell 0
  have x2 : u2.cell? ⟨u1.heap.size, 1, none⟩ = some (.slice A1 3 cap1) := K2.out.cell 1
  have z0 := K2.out.frozen 0
  have z1 := K2.out.frozen 1
  clear f2 b2
  go_wp2_with fail
  clear x0 x2 z0 z1
  refine ((gadd_any _ _ 1 3 8 _ _ (-2) FP2.out (gawake_bound _ (q := 5) (a := 5) (by omega) (by omega) (by omega)) ⟨by omega, by omega⟩ (by decide) ⟨by omega, by omega⟩).mono fun _ _ h => h.1 (gawake_ok2 _)).mono ?_
  rintro e u3 ⟨xx3, rfl, f3, b3⟩
  have B3 : Hid (Below w.heap.size w u3) := bel_trans BP2.out b3
  obtain ⟨v3, rfl, hv3⟩ := f3.at
  obtain ⟨A3, cap3, bb3, oo3, rfl, hx1, hx2⟩ := hv3.read
  clear hx1 hx2 hv3
  have K3 : Hid (Blk u3 u1.heap.size 25 #[.int .u64 1, .slice A2 3 cap2]) := KP2.out.since b3
  have FP3 : Hid (SgAt (put2 u3 u1.heap.size (.int .u64 1) (.slice A3 3 cap3)) (.agg #[.int .u64 1, .slice A3 3 cap3]) 1 3 (fun _ => 8) (addG 1 8 (addG 1 8 (fun _ _ => 0) ⟨#[97]⟩ 5) ⟨#[97]⟩ (-2))) := by
    rw [put2_eq]
    have lt := KP2.out.lt
    exact (Held.put f3 (by omega)).at
  have BP3 : Hid (Below w.heap.size w (put2 u3 u1.heap.size (.int .u64 1) (.slice A3 3 cap3))) := put2_below B3.out LE.out _ _
  have KP3 : Hid (Blk (put2 u3 u1.heap.size (.int .u64 1) (.slice A3 3 cap3)) u1.heap.size 25 #[.int .u64 1, .slice A3 3 cap3]) := put2_blk K3.out _ _
  have x0 : u3.cell? ⟨u1.heap.size, 0, none⟩ = some (.int .u64 1) := K3.out.cell 0
  have x2 : u3.cell? ⟨u1.heap.size, 1, none⟩ = some (.slice A2 3 cap2) := K3.out.cell 1
  have z0 := K3.out.frozen 0
  have z1 := K3.out.frozen 1
  clear f3 b3
  go_wp2_with fail
  clear x0 x2 z0 z1
  refine (gget_ok _ _ 1 3 8 _ _ FP3.out (gawake_ok2 _) ⟨by omega, by omega⟩ (by decide)).mono ?_
  rw [gawake_num]
  rintro e u4 ⟨rfl, b4⟩
  have B4 : Hid (Below w.heap.size w u4) := bel_trans BP3.out b4
  clear b4
  go_wp2_with fail
  go_ret
  exact ⟨rfl, B4.out⟩
end Go.Proofs.Ytpjpgcjlbfgkdaa
