/-
  Right, and the reference's: what they answer of any header.
-/
import Derived.Test.YtjbpbahaekbmlaaIp6Mem
namespace Go.Proofs.Ytjbpbahaekbmlaa
open Go.RowKit Oc Ip6 Go.Deep
set_option linter.unusedVariables false

/-- A chain that is as it may be. -/
def ChainP (C : List Ex) : Prop := C.length ≤ 8 ∧ ∀ (i : Nat) (x : Ex), C[i]? = some x → extP i x
def SoFar (C : List Ex) (k : Nat) : Prop := ∀ (i : Nat) (x : Ex), i < k → C[i]? = some x → extP i x
theorem soFar_zero (C : List Ex) : SoFar C 0 := fun i x h => by omega
theorem soFar_succ {C : List Ex} {k : Nat} {K : Int} {D : List UInt8} (h : SoFar C k) (hx : C[k]? = some ⟨K, D⟩) (h1 : extP k ⟨K, D⟩) : SoFar C (k + 1) := fun i x hi hC => by
  by_cases e : i = k
  · subst e
    rw [hx] at hC
    cases hC
    exact h1
  · exact h i x (by omega) hC
theorem soFar_all {C : List Ex} {n : Nat} (h : SoFar C n) (hn : C.length = n) : ∀ (i : Nat) (x : Ex), C[i]? = some x → extP i x := fun i x hx => by
  refine h i x ?_ hx
  rcases Nat.lt_or_ge i n with h1 | h1
  · exact h1
  · rw [List.getElem?_eq_none (by omega)] at hx; cases hx
set_option maxHeartbeats 1600000 in
theorem chain_any (w : World) (v : Value) (C : List Ex) (h : ChAt w v C) (hn : C.length ≤ 9223372036854775807) : Calls Try.prog 31 #[v] w (TellsB w (ChainP C)) := by
  obtain ⟨A, cap, b, o, rfl, h2, h4⟩ := h.read
  clear h
  obtain ⟨n, hC⟩ : ∃ n, C.length = n := ⟨_, rfl⟩
  rw [hC] at h2 h4 hn ⊢
  have HC : Hid (C.length = n) := hC
  have cell : Hid (∀ i, i < n → A = some ⟨b, o, none⟩ ∧ ∃ (K : Int) (D : List UInt8), C[i]? = some ⟨K, D⟩ ∧ b < w.heap.size ∧ w.cell? ⟨b, o + i * 2, none⟩ = some (.int .i64 K) ∧ w.cell? ⟨b, o + i * 2 + 1, none⟩ = some (.string (bsL D))) := h4
  clear h4 hC
  by_cases c3 : (8 : Int) < n
  · go_enter Try.func31, Try.ntmps31
    go_wp2_with fail
    go_ret
    exact ⟨false, rfl, ⟨fun h => (by cases h), fun h => by have h3 := h.1; have := HC.out; omega⟩, Below.refl _ _⟩
  go_enter Try.func31, Try.ntmps31
  go_wp2_with fail
  go_loopg [10] n (fun g i wr => ∃ k : Nat, (g = n - k ∧ k ≤ n ∧ SoFar C k ∧ Below w.heap.size w wr) ∧ i = .int .i64 (k : Int))
  case atStart => exact ⟨0, ⟨rfl, by omega, soFar_zero C, Below.refl _ _⟩, rfl⟩
  case round =>
    obtain ⟨k, ⟨hg, hk, hR, hB⟩, rfl⟩ := hrel
    have HK : Hid (gk = n - k ∧ SoFar C k ∧ Below w.heap.size w wr) := ⟨hg, hR, hB⟩
    clear hg hR
    by_cases hz : k < n
    · obtain ⟨rfl, K, D, hx, hb, e1, e2⟩ := cell.out k hz
      have f1 := (hB.cell (World.block_lt_of_cell? _ _ e1)).trans e1
      have f2 := (hB.cell (World.block_lt_of_cell? _ _ e2)).trans e2
      have bn : (k : Int) < n := by omega
      have HX : Hid (C[k]? = some ⟨K, D⟩) := hx
      have HB : Hid (Below w.heap.size w (wr.alloc (.cells #[.int .i64 K, .string (bsL D)] 49))) := hB.alloc hB.size _
      clear hB e1 e2 hx
      have NO : Hid (∀ w' : World, Below w.heap.size w w' → ¬ extP k ⟨K, D⟩ → TellsB w (ChainP C) (.returned (.bool false)) w') := fun w' hb' hn' => ⟨false, rfl, ⟨fun h => (by cases h), fun h => absurd (h.2 k _ HX.out) hn'⟩, hb'⟩
      by_cases hM : mayB k K = true
      rotate_left
      · have hM' : mayB k K = false := by simpa using hM
        have HM : Hid (¬ mayB k K = true) := hM
        clear hM
        go_wp2_with fail
        refine (may_any k K _).mono ?_
        rintro e w1 ⟨rfl, rfl⟩
        go_wp2_with fail
        go_ret
        exact NO.out _ HB.out fun h => HM.out (mayB_iff.2 ⟨h.1, h.2.1⟩)
      have HM : Hid (isX K = true ∧ (K = 0 → k = 0)) := mayB_iff.1 hM
      go_wp2_with fail
      refine (may_any k K _).mono ?_
      rintro e w1 ⟨rfl, rfl⟩
      go_wp2_with fail
      refine (data_any K D _).mono ?_
      rintro e w1 ⟨B, rfl, hB, b1⟩
      have HD : Hid (B = true ↔ dataP K D.length) := hB
      have BB : Hid (Below w.heap.size w w1) := bel_trans HB.out b1
      clear hB b1
      cases B with
      | false =>
        go_wp2_with fail
        go_ret
        exact NO.out _ BB.out fun h => by have := HD.out.2 h.2.2; cases this
      | true =>
        have HD2 : Hid (dataP K D.length) := HD.out.1 rfl
        go_wp2_with fail
        go_roundg (n - (k + 1))
        case measure => have := HK.out.1; omega
        case rel => exact ⟨k + 1, ⟨rfl, by omega, soFar_succ HK.out.2.1 HX.out ⟨HM.out.1, HM.out.2, HD2.out⟩, BB.out⟩, by go_num⟩
    · clear hB
      go_wp2_with fail
      go_ret
      have e : k = n := by omega
      exact ⟨true, rfl, ⟨fun _ => ⟨by have := HC.out; omega, soFar_all (e ▸ HK.out.2.1) HC.out⟩, fun _ => rfl⟩, HK.out.2.2⟩
set_option maxHeartbeats 1600000 in
theorem right_any (w : World) (x : Value) (F : Hd) (hF : HdAt w x F) (hn : F.ch.length ≤ 9223372036854775807) : Calls Try.prog 18 #[x] w (TellsB w (RightP F)) := by
  obtain ⟨c, b, h, p, s, d, C⟩ := F
  obtain ⟨v, rfl, hv⟩ := hF
  simp only at hn hv ⊢
  have HV : Hid (∀ w' : World, Keep w w' → ChAt w' v C) := fun w' k => hv.keep k
  clear hv
  have HN : Hid (C.length ≤ 9223372036854775807) := hn
  clear hn
  have B1 : Hid (Below w.heap.size w (w.alloc (.cells #[.int .i64 c, .int .i64 b, .int .i64 h, .int .i64 p, .string (bsL s), .string (bsL d), v] 25))) := bel_alloc _ _
  by_cases c0 : upB c 255 = true
  rotate_left
  · have NR : Hid (¬ RightP ⟨c, b, h, p, s, d, C⟩) := by
      rintro ⟨r0, r1, r2, r3, r4, r5, r6, r7, r8⟩
      exact c0 (upB_iff.2 r0)
    have q0 : upB c 255 = false := by simpa using c0
    clear c0
    go_enter Try.func18, Try.ntmps18
    go_wp2_with fail
    refine (upto_any c 255 _).mono ?_
    rintro e w1 ⟨rfl, rfl⟩
    go_wp2_with fail
    go_ret
    exact ⟨false, rfl, ⟨fun h => (by cases h), fun h => absurd h NR.out⟩, B1.out⟩
  have C0 : Hid (upB c 255 = true) := c0
  have q0 : upB c 255 = true := by simpa using c0
  clear c0
  by_cases c1 : upB b 1048575 = true
  rotate_left
  · have NR : Hid (¬ RightP ⟨c, b, h, p, s, d, C⟩) := by
      rintro ⟨r0, r1, r2, r3, r4, r5, r6, r7, r8⟩
      exact c1 (upB_iff.2 r1)
    have q1 : upB b 1048575 = false := by simpa using c1
    clear c1
    go_enter Try.func18, Try.ntmps18
    go_wp2_with fail
    refine (upto_any c 255 _).mono ?_
    rintro e w1 ⟨rfl, rfl⟩
    go_wp2_with fail
    refine (upto_any b 1048575 _).mono ?_
    rintro e w1 ⟨rfl, rfl⟩
    go_wp2_with fail
    go_ret
    exact ⟨false, rfl, ⟨fun h => (by cases h), fun h => absurd h NR.out⟩, B1.out⟩
  have C1 : Hid (upB b 1048575 = true) := c1
  have q1 : upB b 1048575 = true := by simpa using c1
  clear c1
  by_cases c2 : upB h 255 = true
  rotate_left
  · have NR : Hid (¬ RightP ⟨c, b, h, p, s, d, C⟩) := by
      rintro ⟨r0, r1, r2, r3, r4, r5, r6, r7, r8⟩
      exact c2 (upB_iff.2 r2)
    have q2 : upB h 255 = false := by simpa using c2
    clear c2
    go_enter Try.func18, Try.ntmps18
    go_wp2_with fail
    refine (upto_any c 255 _).mono ?_
    rintro e w1 ⟨rfl, rfl⟩
    go_wp2_with fail
    refine (upto_any b 1048575 _).mono ?_
    rintro e w1 ⟨rfl, rfl⟩
    go_wp2_with fail
    refine (upto_any h 255 _).mono ?_
    rintro e w1 ⟨rfl, rfl⟩
    go_wp2_with fail
    go_ret
    exact ⟨false, rfl, ⟨fun h => (by cases h), fun h => absurd h NR.out⟩, B1.out⟩
  have C2 : Hid (upB h 255 = true) := c2
  have q2 : upB h 255 = true := by simpa using c2
  clear c2
  by_cases c3 : upB p 255 = true
  rotate_left
  · have NR : Hid (¬ RightP ⟨c, b, h, p, s, d, C⟩) := by
      rintro ⟨r0, r1, r2, r3, r4, r5, r6, r7, r8⟩
      exact c3 (upB_iff.2 r3)
    have q3 : upB p 255 = false := by simpa using c3
    clear c3
    go_enter Try.func18, Try.ntmps18
    go_wp2_with fail
    refine (upto_any c 255 _).mono ?_
    rintro e w1 ⟨rfl, rfl⟩
    go_wp2_with fail
    refine (upto_any b 1048575 _).mono ?_
    rintro e w1 ⟨rfl, rfl⟩
    go_wp2_with fail
    refine (upto_any h 255 _).mono ?_
    rintro e w1 ⟨rfl, rfl⟩
    go_wp2_with fail
    refine (upto_any p 255 _).mono ?_
    rintro e w1 ⟨rfl, rfl⟩
    go_wp2_with fail
    go_ret
    exact ⟨false, rfl, ⟨fun h => (by cases h), fun h => absurd h NR.out⟩, B1.out⟩
  have C3 : Hid (upB p 255 = true) := c3
  have q3 : upB p 255 = true := by simpa using c3
  clear c3
  by_cases c4 : isX p = false
  rotate_left
  · have NR : Hid (¬ RightP ⟨c, b, h, p, s, d, C⟩) := by
      rintro ⟨r0, r1, r2, r3, r4, r5, r6, r7, r8⟩
      exact c4 r4
    have q4 : isX p = true := by simpa using c4
    clear c4
    go_enter Try.func18, Try.ntmps18
    go_wp2_with fail
    refine (upto_any c 255 _).mono ?_
    rintro e w1 ⟨rfl, rfl⟩
    go_wp2_with fail
    refine (upto_any b 1048575 _).mono ?_
    rintro e w1 ⟨rfl, rfl⟩
    go_wp2_with fail
    refine (upto_any h 255 _).mono ?_
    rintro e w1 ⟨rfl, rfl⟩
    go_wp2_with fail
    refine (upto_any p 255 _).mono ?_
    rintro e w1 ⟨rfl, rfl⟩
    go_wp2_with fail
    refine (xkind_any p _).mono ?_
    rintro e w1 ⟨rfl, rfl⟩
    go_wp2_with fail
    go_ret
    exact ⟨false, rfl, ⟨fun h => (by cases h), fun h => absurd h NR.out⟩, B1.out⟩
  have C4 : Hid (isX p = false) := c4
  have q4 : isX p = false := by simpa using c4
  clear c4
  by_cases c5 : s.length = 16
  rotate_left
  · have NR : Hid (¬ RightP ⟨c, b, h, p, s, d, C⟩) := by
      rintro ⟨r0, r1, r2, r3, r4, r5, r6, r7, r8⟩
      exact c5 r5
    have q5 : ((s.length : Int) == 16) = false := by simp; omega
    clear c5
    go_enter Try.func18, Try.ntmps18
    go_wp2_with fail
    refine (upto_any c 255 _).mono ?_
    rintro e w1 ⟨rfl, rfl⟩
    go_wp2_with fail
    refine (upto_any b 1048575 _).mono ?_
    rintro e w1 ⟨rfl, rfl⟩
    go_wp2_with fail
    refine (upto_any h 255 _).mono ?_
    rintro e w1 ⟨rfl, rfl⟩
    go_wp2_with fail
    refine (upto_any p 255 _).mono ?_
    rintro e w1 ⟨rfl, rfl⟩
    go_wp2_with fail
    refine (xkind_any p _).mono ?_
    rintro e w1 ⟨rfl, rfl⟩
    go_wp2_with fail
    go_ret
    exact ⟨false, rfl, ⟨fun h => (by cases h), fun h => absurd h NR.out⟩, B1.out⟩
  have C5 : Hid (s.length = 16) := c5
  have q5 : ((s.length : Int) == 16) = true := by simp; omega
  clear c5
  by_cases c6 : d.length = 16
  rotate_left
  · have NR : Hid (¬ RightP ⟨c, b, h, p, s, d, C⟩) := by
      rintro ⟨r0, r1, r2, r3, r4, r5, r6, r7, r8⟩
      exact c6 r6
    have q6 : ((d.length : Int) == 16) = false := by simp; omega
    clear c6
    go_enter Try.func18, Try.ntmps18
    go_wp2_with fail
    refine (upto_any c 255 _).mono ?_
    rintro e w1 ⟨rfl, rfl⟩
    go_wp2_with fail
    refine (upto_any b 1048575 _).mono ?_
    rintro e w1 ⟨rfl, rfl⟩
    go_wp2_with fail
    refine (upto_any h 255 _).mono ?_
    rintro e w1 ⟨rfl, rfl⟩
    go_wp2_with fail
    refine (upto_any p 255 _).mono ?_
    rintro e w1 ⟨rfl, rfl⟩
    go_wp2_with fail
    refine (xkind_any p _).mono ?_
    rintro e w1 ⟨rfl, rfl⟩
    go_wp2_with fail
    go_ret
    exact ⟨false, rfl, ⟨fun h => (by cases h), fun h => absurd h NR.out⟩, B1.out⟩
  have C6 : Hid (d.length = 16) := c6
  have q6 : ((d.length : Int) == 16) = true := by simp; omega
  clear c6
  go_enter Try.func18, Try.ntmps18
  go_wp2_with fail
  refine (upto_any c 255 _).mono ?_
  rintro e w1 ⟨rfl, rfl⟩
  go_wp2_with fail
  refine (upto_any b 1048575 _).mono ?_
  rintro e w1 ⟨rfl, rfl⟩
  go_wp2_with fail
  refine (upto_any h 255 _).mono ?_
  rintro e w1 ⟨rfl, rfl⟩
  go_wp2_with fail
  refine (upto_any p 255 _).mono ?_
  rintro e w1 ⟨rfl, rfl⟩
  go_wp2_with fail
  refine (xkind_any p _).mono ?_
  rintro e w1 ⟨rfl, rfl⟩
  go_wp2_with fail
  refine (chain_any _ v C (HV.out _ (keep_of_below B1.out)) HN.out).mono ?_
  rintro e w1 ⟨B, rfl, hB, b1⟩
  have HB : Hid ((B = true ↔ ChainP C) ∧ Below w.heap.size w w1) := ⟨hB, bel_trans B1.out b1⟩
  clear hB b1
  go_wp2_with fail
  go_ret
  refine ⟨B, rfl, HB.out.1.trans ⟨fun h => ⟨upB_iff.1 C0.out, upB_iff.1 C1.out, upB_iff.1 C2.out, upB_iff.1 C3.out, C4.out, C5.out, C6.out, h.1, h.2⟩, fun h => ⟨h.2.2.2.2.2.2.2.1, h.2.2.2.2.2.2.2.2⟩⟩, HB.out.2⟩
set_option maxHeartbeats 3200000 in
theorem rright_any (w : World) (x : Value) (F : Hd) (hF : HdAt w x F) (hn : F.ch.length ≤ 9223372036854775807) : Calls Try.prog 17 #[x] w (TellsB w (RightP F)) := by
  obtain ⟨c, b, h, p, s, d, C⟩ := F
  obtain ⟨v, rfl, hv⟩ := hF
  simp only at hn hv ⊢
  obtain ⟨A, cap, g, o, rfl, h2, h4⟩ := hv.read
  clear hv
  obtain ⟨n, hC⟩ : ∃ n, C.length = n := ⟨_, rfl⟩
  rw [hC] at h2 h4 hn ⊢
  have HC : Hid (C.length = n) := hC
  have cell : Hid (∀ i, i < n → A = some ⟨g, o, none⟩ ∧ ∃ (K : Int) (D : List UInt8), C[i]? = some ⟨K, D⟩ ∧ g < w.heap.size ∧ w.cell? ⟨g, o + i * 2, none⟩ = some (.int .i64 K) ∧ w.cell? ⟨g, o + i * 2 + 1, none⟩ = some (.string (bsL D))) := h4
  clear h4 hC
  have ST : Hid (Below w.heap.size w (w.alloc (.cells #[.int .i64 c, .int .i64 b, .int .i64 h, .int .i64 p, .string (bsL s), .string (bsL d), .slice A n cap] 31)) ∧ Blk (w.alloc (.cells #[.int .i64 c, .int .i64 b, .int .i64 h, .int .i64 p, .string (bsL s), .string (bsL d), .slice A n cap] 31)) w.heap.size 31 #[.int .i64 c, .int .i64 b, .int .i64 h, .int .i64 p, .string (bsL s), .string (bsL d), .slice A n cap]) := ⟨bel_alloc _ _, Blk.new _ _ _⟩
  go_enter Try.func17, Try.ntmps17
  go_wp2_with fail
  go_loopg [3] n (fun g i wr => ∃ k : Nat, (g = n - k ∧ k ≤ n ∧ SoFar C k ∧ Below w.heap.size w wr ∧ Blk wr w.heap.size 31 #[.int .i64 c, .int .i64 b, .int .i64 h, .int .i64 p, .string (bsL s), .string (bsL d), .slice A n cap]) ∧ i = .int .i64 (k : Int))
  case atStart => exact ⟨0, ⟨rfl, by omega, soFar_zero C, ST.out⟩, rfl⟩
  case round =>
    clear ST
    obtain ⟨k, ⟨hg, hk, hR, hB, hL⟩, rfl⟩ := hrel
    have HK : Hid (gk = n - k ∧ SoFar C k ∧ Below w.heap.size w wr ∧ Blk wr w.heap.size 31 #[.int .i64 c, .int .i64 b, .int .i64 h, .int .i64 p, .string (bsL s), .string (bsL d), .slice A n cap]) := ⟨hg, hR, hB, hL⟩
    have x6 : wr.cell? ⟨w.heap.size, 6, none⟩ = some (.slice A n cap) := hL.cell 6
    have xl : w.heap.size < wr.heap.size := hL.lt
    clear hg hR
    by_cases hz : k < n
    · obtain ⟨rfl, K, D, hx, hb, e1, e2⟩ := cell.out k hz
      have f1 := (hB.cell (World.block_lt_of_cell? _ _ e1)).trans e1
      have f2 := (hB.cell (World.block_lt_of_cell? _ _ e2)).trans e2
      have bn : (k : Int) < n := by omega
      have HX : Hid (C[k]? = some ⟨K, D⟩) := hx
      have HB : Hid (Below w.heap.size w (wr.alloc (.cells #[.int .i64 K, .string (bsL D)] 58)) ∧ Blk (wr.alloc (.cells #[.int .i64 K, .string (bsL D)] 58)) w.heap.size 31 #[.int .i64 c, .int .i64 b, .int .i64 h, .int .i64 p, .string (bsL s), .string (bsL d), .slice (some ⟨g, o, none⟩) n cap]) := ⟨hB.alloc hB.size _, hL.alloc _⟩
      clear hB hL e1 e2 hx
      have NO : Hid (¬ extP k ⟨K, D⟩ → TellsB w (RightP ⟨c, b, h, p, s, d, C⟩) (.returned (.bool false)) (wr.alloc (.cells #[.int .i64 K, .string (bsL D)] 58))) := fun hn' => ⟨false, rfl, ⟨fun h => (by cases h), fun h => absurd (h.2.2.2.2.2.2.2.2 k _ HX.out) hn'⟩, HB.out.1⟩
      by_cases hX : isX K = true
      rotate_left
      · have hX' : isX K = false := by simpa using hX
        have HX' : Hid (¬ isX K = true) := hX
        clear hX
        go_wp2_with fail
        refine (rkind_any K _).mono ?_
        rintro e w1 ⟨rfl, rfl⟩
        go_wp2_with fail
        go_ret
        exact NO.out fun h => HX'.out h.1
      by_cases hk4 : K = 44
      · subst hk4
        by_cases h7 : D.length = 7
        · have q1 : ((D.length : Int) != 7) = false := by simp; omega
          have H7 : Hid (D.length = 7) := h7
          have q2 : ¬ (2046 : Int) < D.length := by omega
          clear h7
          go_wp2_with fail
          refine (rkind_any 44 _).mono ?_
          rintro e w1 ⟨rfl, rfl⟩
          go_wp2_with fail
          go_roundg (n - (k + 1))
          case measure => have := HK.out.1; omega
          case rel => exact ⟨k + 1, ⟨rfl, by omega, soFar_succ HK.out.2.1 HX.out ⟨hX, fun e => (by cases e), ⟨fun _ => H7.out, fun e => absurd rfl e⟩⟩, HB.out⟩, by go_num⟩
        by_cases h9 : (2046 : Int) < D.length
        · have H7 : Hid (D.length ≠ 7) := h7
          clear h7
          go_wp2_with fail
          refine (rkind_any 44 _).mono ?_
          rintro e w1 ⟨rfl, rfl⟩
          go_wp2_with fail
          go_ret
          exact NO.out fun h => H7.out (h.2.2.1 rfl)
        have q1 : ((D.length : Int) != 7) = true := by simp; omega
        have H7 : Hid (D.length ≠ 7) := h7
        clear h7
        go_wp2_with fail
        refine (rkind_any 44 _).mono ?_
        rintro e w1 ⟨rfl, rfl⟩
        go_wp2_with fail
        go_ret
        exact NO.out fun h => H7.out (h.2.2.1 rfl)
      have q4 : (K != 44) = true := by simpa using hk4
      have q4b : (K == 44) = false := by simpa using hk4
      have H4 : Hid (K ≠ 44) := hk4
      clear hk4
      by_cases h6 : D.length % 8 = 6
      rotate_left
      · have q6 : ((D.length : Int) % 8 != 6) = true := by simp; omega
        have H6 : Hid (¬ D.length % 8 = 6) := h6
        clear h6
        go_wp2_with fail
        refine (rkind_any K _).mono ?_
        rintro e w1 ⟨rfl, rfl⟩
        go_wp2_with fail
        go_ret
        exact NO.out fun h => H6.out (h.2.2.2 H4.out).2.2
      have q6 : ((D.length : Int) % 8 != 6) = false := by simp; omega
      have H6 : Hid (D.length % 8 = 6) := h6
      clear h6
      by_cases h9 : (2046 : Int) < D.length
      · go_wp2_with fail
        refine (rkind_any K _).mono ?_
        rintro e w1 ⟨rfl, rfl⟩
        go_wp2_with fail
        go_ret
        exact NO.out fun h => by have := (h.2.2.2 H4.out).2.1; simp only at this; omega
      have HD : Hid (dataP K D.length) := ⟨fun e => absurd e H4.out, fun _ => by have := H6.out; omega⟩
      by_cases h0 : K = 0
      · subst h0
        by_cases hk0 : (0 : Int) < k
        · go_wp2_with fail
          refine (rkind_any 0 _).mono ?_
          rintro e w1 ⟨rfl, rfl⟩
          go_wp2_with fail
          go_ret
          exact NO.out fun h => by have := h.2.1 rfl; omega
        have K0 : Hid (k = 0) := by show k = 0; omega
        go_wp2_with fail
        refine (rkind_any 0 _).mono ?_
        rintro e w1 ⟨rfl, rfl⟩
        go_wp2_with fail
        go_roundg (n - (k + 1))
        case measure => have := HK.out.1; omega
        case rel => exact ⟨k + 1, ⟨rfl, by omega, soFar_succ HK.out.2.1 HX.out ⟨hX, fun _ => K0.out, HD.out⟩, HB.out⟩, by go_num⟩
      have q0 : (K == 0) = false := by simpa using h0
      have H0 : Hid (K ≠ 0) := h0
      clear h0
      go_wp2_with fail
      refine (rkind_any K _).mono ?_
      rintro e w1 ⟨rfl, rfl⟩
      go_wp2_with fail
      go_roundg (n - (k + 1))
      case measure => have := HK.out.1; omega
      case rel => exact ⟨k + 1, ⟨rfl, by omega, soFar_succ HK.out.2.1 HX.out ⟨hX, fun e => absurd e H0.out, HD.out⟩, HB.out⟩, by go_num⟩
    · have e : k = n := by omega
      have x0 : wr.cell? ⟨w.heap.size, 0, none⟩ = some (.int .i64 c) := hL.cell 0
      have x1 : wr.cell? ⟨w.heap.size, 1, none⟩ = some (.int .i64 b) := hL.cell 1
      have x2 : wr.cell? ⟨w.heap.size, 2, none⟩ = some (.int .i64 h) := hL.cell 2
      have x3 : wr.cell? ⟨w.heap.size, 3, none⟩ = some (.int .i64 p) := hL.cell 3
      have x4 : wr.cell? ⟨w.heap.size, 4, none⟩ = some (.string (bsL s)) := hL.cell 4
      have x5 : wr.cell? ⟨w.heap.size, 5, none⟩ = some (.string (bsL d)) := hL.cell 5
      have HR : Hid (SoFar C n ∧ Below w.heap.size w wr) := ⟨e ▸ HK.out.2.1, hB⟩
      clear hB hL e
      have NO : Hid (¬ RightP ⟨c, b, h, p, s, d, C⟩ → TellsB w (RightP ⟨c, b, h, p, s, d, C⟩) (.returned (.bool false)) wr) := fun hn' => ⟨false, rfl, ⟨fun h => (by cases h), fun h => absurd h hn'⟩, HR.out.2⟩
      by_cases t0 : c < 0
      · go_wp2_with fail
        go_ret
        exact NO.out (by rintro ⟨r0, r1, r2, r3, r4, r5, r6, r7, r8⟩; simp only at r0; omega)
      by_cases t1 : 255 < c
      · go_wp2_with fail
        go_ret
        exact NO.out (by rintro ⟨r0, r1, r2, r3, r4, r5, r6, r7, r8⟩; simp only at r0; omega)
      by_cases t2 : h < 0
      · go_wp2_with fail
        go_ret
        exact NO.out (by rintro ⟨r0, r1, r2, r3, r4, r5, r6, r7, r8⟩; simp only at r2; omega)
      by_cases t3 : 255 < h
      · go_wp2_with fail
        go_ret
        exact NO.out (by rintro ⟨r0, r1, r2, r3, r4, r5, r6, r7, r8⟩; simp only at r2; omega)
      by_cases t4 : b < 0
      · go_wp2_with fail
        go_ret
        exact NO.out (by rintro ⟨r0, r1, r2, r3, r4, r5, r6, r7, r8⟩; simp only at r1; omega)
      by_cases t5 : 1048575 < b
      · go_wp2_with fail
        go_ret
        exact NO.out (by rintro ⟨r0, r1, r2, r3, r4, r5, r6, r7, r8⟩; simp only at r1; omega)
      by_cases t6 : p < 0
      · go_wp2_with fail
        go_ret
        exact NO.out (by rintro ⟨r0, r1, r2, r3, r4, r5, r6, r7, r8⟩; simp only at r3; omega)
      by_cases t7 : 255 < p
      · go_wp2_with fail
        go_ret
        exact NO.out (by rintro ⟨r0, r1, r2, r3, r4, r5, r6, r7, r8⟩; simp only at r3; omega)
      by_cases hp : isX p = false
      rotate_left
      · have hp' : isX p = true := by simpa using hp
        have HP : Hid (¬ isX p = false) := hp
        clear hp
        go_wp2_with fail
        refine (rkind_any p _).mono ?_
        rintro e w1 ⟨rfl, rfl⟩
        go_wp2_with fail
        go_ret
        exact NO.out fun h => HP.out h.2.2.2.2.1
      by_cases c5 : s.length = 16
      rotate_left
      · have q5 : ((s.length : Int) == 16) = false := by simp; omega
        have HL : Hid (¬ s.length = 16) := c5
        clear c5
        go_wp2_with fail
        refine (rkind_any p _).mono ?_
        rintro e w1 ⟨rfl, rfl⟩
        go_wp2_with fail
        go_ret
        exact NO.out fun h => HL.out h.2.2.2.2.2.1
      have q5 : ((s.length : Int) == 16) = true := by simp; omega
      have C5 : Hid (s.length = 16) := c5
      clear c5
      by_cases c6 : d.length = 16
      rotate_left
      · have q6 : ((d.length : Int) == 16) = false := by simp; omega
        have HL : Hid (¬ d.length = 16) := c6
        clear c6
        go_wp2_with fail
        refine (rkind_any p _).mono ?_
        rintro e w1 ⟨rfl, rfl⟩
        go_wp2_with fail
        go_ret
        exact NO.out fun h => HL.out h.2.2.2.2.2.2.1
      have q6 : ((d.length : Int) == 16) = true := by simp; omega
      have C6 : Hid (d.length = 16) := c6
      clear c6
      by_cases c7 : (n : Int) < 9
      rotate_left
      · have q7 : decide ((n : Int) < 9) = false := by simp; omega
        go_wp2_with fail
        refine (rkind_any p _).mono ?_
        rintro e w1 ⟨rfl, rfl⟩
        go_wp2_with fail
        go_ret
        exact NO.out fun h => by have h7 := h.2.2.2.2.2.2.2.1; simp only at h7; have := HC.out; omega
      have YR : Hid (RightP ⟨c, b, h, p, s, d, C⟩) := ⟨by show 0 ≤ c ∧ c ≤ 255; omega, by show 0 ≤ b ∧ b ≤ 1048575; omega, by show 0 ≤ h ∧ h ≤ 255; omega, by show 0 ≤ p ∧ p ≤ 255; omega, hp, C5.out, C6.out, by show C.length ≤ 8; have := HC.out; omega, soFar_all HR.out.1 HC.out⟩
      go_wp2_with fail
      refine (rkind_any p _).mono ?_
      rintro e w1 ⟨rfl, rfl⟩
      go_wp2_with fail
      go_ret
      exact ⟨true, rfl, ⟨fun _ => YR.out, fun _ => rfl⟩, HR.out.2⟩
end Go.Proofs.Ytjbpbahaekbmlaa
