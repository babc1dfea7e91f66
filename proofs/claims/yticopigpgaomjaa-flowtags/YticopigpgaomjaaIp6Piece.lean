
/-
  Piece, and the reference's: what they answer of any header.
-/
import Derived.Test.YticopigpgaomjaaIp6Ref
namespace Go.Proofs.Yticopigpgaomjaa.L7
open Go.RowKit Oc Ip6 Go.Deep
set_option linter.unusedVariables false

/-- An extension that tells a place behind the beginning. -/
def furP (x : Ex) : Prop := x.kind = 44 ∧ 3 ≤ x.data.length ∧ 8 ≤ pairL x.data 1
def PieceP (C : List Ex) : Prop := ∃ (i : Nat) (x : Ex), C[i]? = some x ∧ furP x
def NoneYet (C : List Ex) (k : Nat) : Prop := ∀ (i : Nat) (x : Ex), i < k → C[i]? = some x → ¬ furP x
theorem none_succ {C : List Ex} {k : Nat} {x : Ex} (h : NoneYet C k) (hx : C[k]? = some x) (h1 : ¬ furP x) : NoneYet C (k + 1) := fun i y hi hC => by
  by_cases e : i = k
  · subst e
    rw [hx] at hC
    cases hC
    exact h1
  · exact h i y (by omega) hC
theorem none_all {C : List Ex} {n : Nat} (h : NoneYet C n) (hn : C.length = n) : ¬ PieceP C := by
  rintro ⟨i, x, hx, hf⟩
  refine h i x ?_ hx hf
  rcases Nat.lt_or_ge i n with h1 | h1
  · exact h1
  · rw [List.getElem?_eq_none (by omega)] at hx; cases hx
set_option maxHeartbeats 800000 in
theorem further_any (D : List UInt8) (w : World) (hl : D.length ≤ 1152921504606846976) : Calls Try.prog 80 #[.string (bsL D)] w (TellsB w (3 ≤ D.length ∧ 8 ≤ pairL D 1)) := by
  by_cases h3 : (3 : Int) ≤ D.length
  rotate_left
  · go_enter Try.func80, Try.ntmps80
    go_wp2_with fail
    go_ret
    exact ⟨false, rfl, ⟨fun h => (by cases h), fun h => by omega⟩, Below.refl _ _⟩
  have N : Hid (numL ((D.drop 1).take 2) = pairL D 1) := num_two D 1 (by omega)
  have P1 := pairL_lt D 1
  by_cases h8 : (8 : Int) ≤ pairL D 1
  rotate_left
  · go_enter Try.func80, Try.ntmps80
    go_wp2_with fail
    refine (numat_any D 1 2 _ (by omega) (by omega) (by omega) hl).mono ?_
    rintro e w1 ⟨rfl, b1⟩
    rw [N.out]
    have h8' : decide ((8 : Int) ≤ pairL D 1) = false := by simp; omega
    go_wp2_with fail
    go_ret
    exact ⟨false, by rw [← h8']; rfl, ⟨fun h => (by cases h), fun h => by omega⟩, b1⟩
  · go_enter Try.func80, Try.ntmps80
    go_wp2_with fail
    refine (numat_any D 1 2 _ (by omega) (by omega) (by omega) hl).mono ?_
    rintro e w1 ⟨rfl, b1⟩
    rw [N.out]
    go_wp2_with fail
    go_ret
    exact ⟨true, rfl, ⟨fun h => by omega, fun h => rfl⟩, b1⟩
set_option maxHeartbeats 1600000 in
theorem piece_any (w : World) (x : Value) (F : Hd) (hF : HdAt w x F) (hn : F.ch.length ≤ 9223372036854775807) (hl : ∀ (i : Nat) (x : Ex), F.ch[i]? = some x → x.data.length ≤ 1152921504606846976) : Calls Try.prog 66 #[x] w (TellsB w (PieceP F.ch)) := by
  obtain ⟨c, b, h, p, s, d, C⟩ := F
  obtain ⟨v, rfl, hv⟩ := hF
  simp only at hn hv ⊢
  obtain ⟨A, cap, g, o, rfl, h2, h4⟩ := hv.read
  clear hv
  obtain ⟨n, hC⟩ : ∃ n, C.length = n := ⟨_, rfl⟩
  rw [hC] at h2 h4 hn ⊢
  have HC : Hid (C.length = n) := hC
  have cell : Hid (∀ i, i < n → A = some ⟨g, o, none⟩ ∧ ∃ (K : Int) (D : List UInt8), C[i]? = some ⟨K, D⟩ ∧ g < w.heap.size ∧ w.cell? ⟨g, o + i * 2, none⟩ = some (.int .i64 K) ∧ w.cell? ⟨g, o + i * 2 + 1, none⟩ = some (.string (bsL D))) := h4
  clear h4 hC
  have HL : Hid (∀ (i : Nat) (x : Ex), C[i]? = some x → x.data.length ≤ 1152921504606846976) := hl
  clear hl
  have B1 : Hid (Below w.heap.size w (w.alloc (.cells #[.int .i64 c, .int .i64 b, .int .i64 h, .int .i64 p, .string (bsL s), .string (bsL d), .slice A n cap] 113))) := bel_alloc _ _
  go_enter Try.func66, Try.ntmps66
  go_wp2_with fail
  go_loopg [8] n (fun g i wr => ∃ k : Nat, (g = n - k ∧ k ≤ n ∧ NoneYet C k ∧ Below w.heap.size w wr) ∧ i = .int .i64 (k : Int))
  case atStart => exact ⟨0, ⟨rfl, by omega, fun i x hi => by omega, B1.out⟩, rfl⟩
  case round =>
    clear B1
    obtain ⟨k, ⟨hg, hk, hR, hB⟩, rfl⟩ := hrel
    have HK : Hid (gk = n - k ∧ NoneYet C k ∧ Below w.heap.size w wr) := ⟨hg, hR, hB⟩
    clear hg hR
    by_cases hz : k < n
    · obtain ⟨rfl, K, D, hx, hb, e1, e2⟩ := cell.out k hz
      have f1 := (hB.cell (World.block_lt_of_cell? _ _ e1)).trans e1
      have f2 := (hB.cell (World.block_lt_of_cell? _ _ e2)).trans e2
      have bn : (k : Int) < n := by omega
      have HX : Hid (C[k]? = some ⟨K, D⟩) := hx
      have HB : Hid (Below w.heap.size w (wr.alloc (.cells #[.int .i64 K, .string (bsL D)] 127))) := hB.alloc hB.size _
      have lD : D.length ≤ 1152921504606846976 := HL.out k _ hx
      clear hB e1 e2 hx
      by_cases hk4 : K = 44
      · subst hk4
        go_wp2_with fail
        refine (further_any D _ lD).mono ?_
        rintro e w1 ⟨B, rfl, hB, b1⟩
        have HD : Hid (B = true ↔ 3 ≤ D.length ∧ 8 ≤ pairL D 1) := hB
        have BB : Hid (Below w.heap.size w w1) := bel_trans HB.out b1
        clear hB b1
        cases B with
        | true =>
          have HD2 : Hid (3 ≤ D.length ∧ 8 ≤ pairL D 1) := HD.out.1 rfl
          go_wp2_with fail
          go_ret
          exact ⟨true, rfl, ⟨fun _ => ⟨k, _, HX.out, rfl, HD2.out⟩, fun _ => rfl⟩, BB.out⟩
        | false =>
          have HD2 : Hid (¬ (3 ≤ D.length ∧ 8 ≤ pairL D 1)) := fun h => by have := HD.out.2 h; cases this
          go_wp2_with fail
          go_roundg (n - (k + 1))
          case measure => have := HK.out.1; omega
          case rel => exact ⟨k + 1, ⟨rfl, by omega, none_succ HK.out.2.1 HX.out (fun h => HD2.out h.2), BB.out⟩, by go_num⟩
      · have q4 : (K == 44) = false := by simpa using hk4
        have H4 : Hid (K ≠ 44) := hk4
        clear hk4
        go_wp2_with fail
        go_roundg (n - (k + 1))
        case measure => have := HK.out.1; omega
        case rel => exact ⟨k + 1, ⟨rfl, by omega, none_succ HK.out.2.1 HX.out (fun h => H4.out h.1), HB.out⟩, by go_num⟩
    · clear hB
      go_wp2_with fail
      go_ret
      have e : k = n := by omega
      exact ⟨false, rfl, ⟨fun h => (by cases h), fun h => absurd h (none_all (e ▸ HK.out.2.1) HC.out)⟩, HK.out.2.2⟩
set_option maxHeartbeats 3200000 in
theorem rpiece_any (w : World) (x : Value) (F : Hd) (hF : HdAt w x F) (hn : F.ch.length ≤ 9223372036854775807) : Calls Try.prog 29 #[x] w (TellsB w (PieceP F.ch)) := by
  obtain ⟨c, b, h, p, s, d, C⟩ := F
  obtain ⟨v, rfl, hv⟩ := hF
  simp only at hn hv ⊢
  obtain ⟨A, cap, g, o, rfl, h2, h4⟩ := hv.read
  clear hv
  obtain ⟨n, hC⟩ : ∃ n, C.length = n := ⟨_, rfl⟩
  rw [hC] at h2 h4 hn ⊢
  have HC : Hid (C.length = n) := hC
  have cell : Hid (∀ i, i < n → A = some ⟨g, o, none⟩ ∧ ∃ (K : Int) (D : List UInt8), C[i]? = some ⟨K, D⟩ ∧ g < w.heap.size ∧ w.cell? ⟨g, o + i * 2, none⟩ = some (.int .i64 K) ∧ w.cell? ⟨g, o + i * 2 + 1, none⟩ = some (.string (bsL D))) := h4
  clear h4 hC
  have ST : Hid (Below w.heap.size w (w.alloc (.cells #[.int .i64 c, .int .i64 b, .int .i64 h, .int .i64 p, .string (bsL s), .string (bsL d), .slice A n cap] 66)) ∧ Blk (w.alloc (.cells #[.int .i64 c, .int .i64 b, .int .i64 h, .int .i64 p, .string (bsL s), .string (bsL d), .slice A n cap] 66)) w.heap.size 66 #[.int .i64 c, .int .i64 b, .int .i64 h, .int .i64 p, .string (bsL s), .string (bsL d), .slice A n cap]) := ⟨bel_alloc _ _, Blk.new _ _ _⟩
  go_enter Try.func29, Try.ntmps29
  go_wp2_with fail
  go_loopg [3] n (fun g i wr => ∃ k : Nat, (g = n - k ∧ k ≤ n ∧ NoneYet C k ∧ Below w.heap.size w wr ∧ Blk wr w.heap.size 66 #[.int .i64 c, .int .i64 b, .int .i64 h, .int .i64 p, .string (bsL s), .string (bsL d), .slice A n cap]) ∧ i = .int .i64 (k : Int))
  case atStart => exact ⟨0, ⟨rfl, by omega, fun i x hi => by omega, ST.out⟩, rfl⟩
  case round =>
    clear ST
    obtain ⟨k, ⟨hg, hk, hR, hB, hL⟩, rfl⟩ := hrel
    have HK : Hid (gk = n - k ∧ NoneYet C k ∧ Below w.heap.size w wr ∧ Blk wr w.heap.size 66 #[.int .i64 c, .int .i64 b, .int .i64 h, .int .i64 p, .string (bsL s), .string (bsL d), .slice A n cap]) := ⟨hg, hR, hB, hL⟩
    have x6 : wr.cell? ⟨w.heap.size, 6, none⟩ = some (.slice A n cap) := hL.cell 6
    clear hg hL hR
    by_cases hz : k < n
    · obtain ⟨rfl, K, D, hx, hb, e1, e2⟩ := cell.out k hz
      have f1 := (hB.cell (World.block_lt_of_cell? _ _ e1)).trans e1
      have f2 := (hB.cell (World.block_lt_of_cell? _ _ e2)).trans e2
      have bn : (k : Int) < n := by omega
      have HX : Hid (C[k]? = some ⟨K, D⟩) := hx
      clear hB e1 e2 hx
      by_cases hk4 : K = 44
      · subst hk4
        by_cases h3 : (2 : Int) < D.length
        rotate_left
        · go_wp2_with fail
          go_roundg (n - (k + 1))
          case measure => have := HK.out.1; omega
          case rel => exact ⟨k + 1, ⟨rfl, by omega, none_succ HK.out.2.1 HX.out (fun h => by have := h.2.1; simp only at this; omega), HK.out.2.2⟩, by go_num⟩
        have i1 : (1 : Int) < D.length := by omega
        have n1 : 1 < D.length := by omega
        have n2 : 2 < D.length := by omega
        have a1 := atL_lt D 1
        have a2 := atL_lt D 2
        by_cases z1 : (0 : Int) < atL D 1
        · go_wp2_with fail
          go_ret
          exact ⟨true, rfl, ⟨fun _ => ⟨k, _, HX.out, rfl, by show 3 ≤ D.length; omega, by show 8 ≤ 256 * atL D 1 + atL D 2; omega⟩, fun _ => rfl⟩, HK.out.2.2.1⟩
        by_cases z2 : (7 : Int) < atL D 2
        · go_wp2_with fail
          go_ret
          exact ⟨true, rfl, ⟨fun _ => ⟨k, _, HX.out, rfl, by show 3 ≤ D.length; omega, by show 8 ≤ 256 * atL D 1 + atL D 2; omega⟩, fun _ => rfl⟩, HK.out.2.2.1⟩
        go_wp2_with fail
        go_roundg (n - (k + 1))
        case measure => have := HK.out.1; omega
        case rel => exact ⟨k + 1, ⟨rfl, by omega, none_succ HK.out.2.1 HX.out (fun h => by have hq : 8 ≤ 256 * atL D 1 + atL D 2 := h.2.2; omega), HK.out.2.2⟩, by go_num⟩
      have q4 : (K == 44) = false := by simpa using hk4
      have H4 : Hid (K ≠ 44) := hk4
      clear hk4
      go_wp2_with fail
      go_roundg (n - (k + 1))
      case measure => have := HK.out.1; omega
      case rel => exact ⟨k + 1, ⟨rfl, by omega, none_succ HK.out.2.1 HX.out (fun h => H4.out h.1), HK.out.2.2⟩, by go_num⟩
    · clear hB
      go_wp2_with fail
      go_ret
      have e : k = n := by omega
      exact ⟨false, rfl, ⟨fun h => (by cases h), fun h => absurd h (none_all (e ▸ HK.out.2.1) HC.out)⟩, HK.out.2.2.1⟩
end Go.Proofs.Yticopigpgaomjaa.L7
