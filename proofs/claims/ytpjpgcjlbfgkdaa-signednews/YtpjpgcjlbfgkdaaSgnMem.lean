
/-
  How sketches of signed counts lie in memory, and what the small functions of layer 12 (signed) answer.
-/
import Derived.Test.YtpjpgcjlbfgkdaaHashMore
import Derived.Test.YtpjpgcjlbfgkdaaLstMem
import Derived.Test.YtpjpgcjlbfgkdaaSgnNum
import Derived.Deep.AppendLies
import Derived.OwnWalk
namespace Go.Proofs.Ytpjpgcjlbfgkdaa
open Go.RowKit Fm Bl Sg L2 Go.Deep
set_option linter.unusedVariables false

/-- A sketch as a value. -/
def SgAt (w : World) (x : Value) (S : Int) (R : Nat) (L : Nat → Nat) (Z : Nat → Nat → Int) : Prop := ∃ v, x = .agg #[.int .u64 S, v] ∧ RowsI w v R L Z
theorem SgAt.keep {w w' : World} {x : Value} {S : Int} {R : Nat} {L : Nat → Nat} {Z : Nat → Nat → Int} (h : SgAt w x S R L Z) (k : Keep w w') : SgAt w' x S R L Z := by
  obtain ⟨v, h1, h2⟩ := h
  exact ⟨v, h1, h2.keep k⟩
theorem SgAt.congr {w : World} {x : Value} {S : Int} {R : Nat} {L K : Nat → Nat} {Z Y : Nat → Nat → Int} (h : SgAt w x S R L Z) (e : ∀ i, i < R → L i = K i) (f : ∀ i j, i < R → j < K i → Z i j = Y i j) : SgAt w x S R K Y := by
  obtain ⟨v, h1, h2⟩ := h
  exact ⟨v, h1, h2.congr e f⟩
theorem SgAt.one {w : World} {x : Value} {S : Int} {R : Nat} {L : Nat → Nat} {Z : Nat → Nat → Int} (h : SgAt w x S R L Z) (r : RightG R L Z) : SgAt w x S R (fun _ => L 0) Z :=
  h.congr (fun i hi => (r.2.2.2.2.2 i hi).1) fun _ _ _ _ => rfl
def put2 (w : World) (g : Nat) (a0 a1 : Value) : World := (w.setCell ⟨g, 0, none⟩ a0).setCell ⟨g, 1, none⟩ a1
theorem put2_eq (w : World) (g : Nat) (a0 a1 : Value) : put2 w g a0 a1 = putCells w g 0 [a0, a1] := by simp only [put2, putCells]
theorem put2_below {Bd : Nat} {w wr : World} {g : Nat} (h : Below Bd w wr) (hg : Bd ≤ g) (a0 a1 : Value) : Below Bd w (put2 wr g a0 a1) := by
  rw [put2_eq]; exact putCells_below hg _ _ _ h
theorem put2_blk {w : World} {g : Nat} {t : TypeId} {x0 x1 : Value} (h : Blk w g t #[x0, x1]) (a0 a1 : Value) : Blk (put2 w g a0 a1) g t #[a0, a1] := by
  rw [put2_eq]; exact putCells_blk [a0, a1] [x0, x1] [] w 0 rfl rfl h
theorem put2_other {w : World} {g q : Nat} {t : TypeId} {cs : Array Value} (h : Blk w q t cs) (hq : q ≠ g) (a0 a1 : Value) : Blk (put2 w g a0 a1) q t cs :=
  (h.other (a := ⟨g, 0, none⟩) hq a0).other (a := ⟨g, 1, none⟩) hq a1
theorem put2_heap (w : World) (g : Nat) (x y : Value) (q : Nat) (h : q ≠ g) : (put2 w g x y).heap[q]? = w.heap[q]? := by
  unfold put2
  rw [Below.heap_setCell _ _ _ q h, Below.heap_setCell _ _ _ q h]

set_option maxHeartbeats 1600000 in
theorem gfits_any (r c : Int) (w : World) : Calls Try.prog 27 #[.int .i64 r, .int .i64 c] w fun e w' => e = .returned (.bool (fitsS r c)) ∧ w' = w := by
  by_cases c1 : 1 ≤ r
  rotate_left
  · have E : Hid (fitsS r c = false) := decide_eq_false (by omega)
    go_enter Try.func27, Try.ntmps27
    go_wp2
    go_ret
    exact ⟨by rw [E.out]; rfl, rfl⟩
  by_cases c2 : r ≤ 7
  rotate_left
  · have E : Hid (fitsS r c = false) := decide_eq_false (by omega)
    go_enter Try.func27, Try.ntmps27
    go_wp2
    go_ret
    exact ⟨by rw [E.out]; rfl, rfl⟩
  by_cases c3 : r % 2 = 1
  rotate_left
  · have e3 : (r % 2 == 1) = false := by simpa using c3
    have E : Hid (fitsS r c = false) := decide_eq_false (by omega)
    go_enter Try.func27, Try.ntmps27
    go_wp2
    go_ret
    exact ⟨by rw [E.out]; rfl, rfl⟩
  have e3 : (r % 2 == 1) = true := by simpa using c3
  by_cases c4 : 1 ≤ c
  rotate_left
  · have E : Hid (fitsS r c = false) := decide_eq_false (by omega)
    go_enter Try.func27, Try.ntmps27
    go_wp2
    go_ret
    exact ⟨by rw [E.out]; rfl, rfl⟩
  by_cases c5 : c ≤ 256
  rotate_left
  · have E : Hid (fitsS r c = false) := decide_eq_false (by omega)
    go_enter Try.func27, Try.ntmps27
    go_wp2
    go_ret
    exact ⟨by rw [E.out]; rfl, rfl⟩
  have E : Hid (fitsS r c = true) := decide_eq_true (by omega)
  go_enter Try.func27, Try.ntmps27
  go_wp2
  go_ret
  exact ⟨by rw [E.out]; rfl, rfl⟩
def fitsB1 (z : Int) : Bool := decide (-1099511627776 ≤ z ∧ z ≤ 1099511627776)
theorem fitsB1_yes {z : Int} (h : FitsI z) : fitsB1 z = true := decide_eq_true h
theorem fitsB1_no {z : Int} (h : ¬ FitsI z) : fitsB1 z = false := decide_eq_false h
set_option maxHeartbeats 800000 in
theorem gwithin_any (z : Int) (w : World) : Calls Try.prog 29 #[.int .i64 z] w fun e w' => e = .returned (.bool (fitsB1 z)) ∧ w' = w := by
  by_cases c1 : -1099511627776 ≤ z
  rotate_left
  · have E : Hid (fitsB1 z = false) := fitsB1_no (fun h => by unfold FitsI at h; omega)
    go_enter Try.func29, Try.ntmps29
    go_wp2
    go_ret
    exact ⟨by rw [E.out]; rfl, rfl⟩
  by_cases c2 : z ≤ 1099511627776
  rotate_left
  · have E : Hid (fitsB1 z = false) := fitsB1_no (fun h => by unfold FitsI at h; omega)
    go_enter Try.func29, Try.ntmps29
    go_wp2
    go_ret
    exact ⟨by rw [E.out]; rfl, rfl⟩
  have E : Hid (fitsB1 z = true) := fitsB1_yes ⟨c1, c2⟩
  go_enter Try.func29, Try.ntmps29
  go_wp2
  go_ret
  exact ⟨by rw [E.out]; rfl, rfl⟩
set_option maxHeartbeats 800000 in
theorem hfits_any (z : Int) (w : World) : Calls Try.prog 21 #[.int .i64 z] w fun e w' => e = .returned (.bool (fitsB1 z)) ∧ w' = w := by
  by_cases c1 : -1099511627776 ≤ z
  rotate_left
  · have E : Hid (fitsB1 z = false) := fitsB1_no (fun h => by unfold FitsI at h; omega)
    go_enter Try.func21, Try.ntmps21
    go_wp2
    go_ret
    exact ⟨by rw [E.out]; rfl, rfl⟩
  by_cases c2 : z ≤ 1099511627776
  rotate_left
  · have E : Hid (fitsB1 z = false) := fitsB1_no (fun h => by unfold FitsI at h; omega)
    go_enter Try.func21, Try.ntmps21
    go_wp2
    go_ret
    exact ⟨by rw [E.out]; rfl, rfl⟩
  have E : Hid (fitsB1 z = true) := fitsB1_yes ⟨c1, c2⟩
  go_enter Try.func21, Try.ntmps21
  go_wp2
  go_ret
  exact ⟨by rw [E.out]; rfl, rfl⟩
set_option maxHeartbeats 1600000 in
theorem gall_any (w : World) (v : Value) (n : Nat) (z : Nat → Int) (h : IntsI w v n z) (hn : n ≤ 100000) :
    Calls Try.prog 34 #[v] w (TellsW w (∀ j, j < n → FitsI (z j))) := by
  obtain ⟨A, cap, b, o, rfl, h2, h3, h4⟩ := h
  have H3 : Hid (0 < n → A = some ⟨b, o, none⟩) := h3
  have H4 : Hid (∀ i, i < n → w.cell? ⟨b, o + i, none⟩ = some (.int .i64 (z i))) := h4
  clear h3 h4
  go_enter Try.func34, Try.ntmps34
  go_wp2_with fail
  go_loop [7] (fun i => ∃ k : Nat, (k ≤ n ∧ ∀ r, r < k → FitsI (z r)) ∧ i = .int .i64 (k : Int)) (fun i => n - (intOf i).toNat)
  case atStart => exact ⟨0, ⟨by omega, fun r hr => by omega⟩, rfl⟩
  case round =>
    obtain ⟨k, hk, rfl⟩ := hrel
    have HK : Hid (k ≤ n ∧ ∀ r, r < k → FitsI (z r)) := hk
    have hkR := hk.1
    clear hk
    by_cases hz : k < n
    · obtain rfl := H3.out (by omega)
      have ck := H4.out k hz
      have bk : (k : Int) < (n : Int) := by omega
      obtain ⟨x, hx⟩ : ∃ x, x = z k := ⟨_, rfl⟩
      rw [← hx] at ck
      have HX : Hid (x = z k) := hx
      clear hx
      go_wp2_with fail
      refine (gwithin_any _ _).mono ?_
      rintro e u1 ⟨rfl, rfl⟩
      by_cases e1 : FitsI x
      · rw [fitsB1_yes e1]
        have HE : Hid (FitsI x) := e1
        clear e1
        go_wp2_with fail
        go_round
        case rel =>
          refine ⟨k + 1, ⟨by omega, fun r hr => ?_⟩, by go_num⟩
          by_cases e : r = k
          · rw [e, ← HX.out]; exact HE.out
          · exact HK.out.2 r (by omega)
        case measure => simp [intOf]; omega
      · rw [fitsB1_no e1]
        have HE : Hid (¬ FitsI x) := e1
        clear e1
        go_wp2_with fail
        go_ret
        exact ⟨false, rfl, ⟨fun h => (by cases h), fun h => by have := h k hz; rw [← HX.out] at this; exact absurd this HE.out⟩, rfl⟩
    · go_wp2_with fail
      go_ret
      exact ⟨true, rfl, ⟨fun _ => fun r hr => HK.out.2 r (by omega), fun _ => rfl⟩, rfl⟩
end Go.Proofs.Ytpjpgcjlbfgkdaa
