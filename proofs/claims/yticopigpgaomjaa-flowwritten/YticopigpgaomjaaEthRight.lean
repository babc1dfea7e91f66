
/-
  Right, and the reference's: what they answer of any frame.
-/
import Derived.Test.YticopigpgaomjaaEthMem
namespace Go.Proofs.Yticopigpgaomjaa.L5
open Go.RowKit Oc Et
set_option linter.unusedVariables false

/-- A bool that tells whether something holds; what was there is there. -/
def TellsB (w : World) (P : Prop) (e : Ending) (w' : World) : Prop := ∃ B : Bool, e = .returned (.bool B) ∧ (B = true ↔ P) ∧ Below w.heap.size w w'

set_option maxHeartbeats 1600000 in
theorem right_any (w : World) (x : Value) (F : Fr) (h : FrameAt w x F) (hn : F.n ≤ 1000000) : Calls Try.prog 42 #[x] w (TellsB w (RightP F)) := by
  obtain ⟨d, s, n, K, V, T⟩ := F
  obtain ⟨v, rfl, A, cap, b, o, rfl, h2, h3, h4⟩ := h
  simp only at hn h2 h3 h4 ⊢
  have B1 : Hid (Below w.heap.size w (w.alloc (.cells #[.string (bsL d), .string (bsL s), .slice A n cap, .int .i64 T] 40))) := (Below.refl _ _).alloc (Nat.le_refl _) _
  by_cases c1 : d.length = 6
  rotate_left
  · have q1 : ((d.length : Int) != 6) = true := by simp; omega
    go_enter Try.func42, Try.ntmps42
    go_wp2_with fail
    go_ret
    exact ⟨false, rfl, ⟨fun h => (by cases h), fun h => absurd h.1 c1⟩, B1.out⟩
  by_cases c2 : s.length = 6
  rotate_left
  · have q1 : ((d.length : Int) != 6) = false := by simp; omega
    have q2 : ((s.length : Int) != 6) = true := by simp; omega
    go_enter Try.func42, Try.ntmps42
    go_wp2_with fail
    go_ret
    exact ⟨false, rfl, ⟨fun h => (by cases h), fun h => absurd h.2.1 c2⟩, B1.out⟩
  have q1 : ((d.length : Int) != 6) = false := by simp; omega
  have q2 : ((s.length : Int) != 6) = false := by simp; omega
  have D1 : Hid (d.length = 6 ∧ s.length = 6) := ⟨c1, c2⟩
  clear c1 c2
  by_cases c3 : (2 : Int) < n
  · go_enter Try.func42, Try.ntmps42
    go_wp2_with fail
    go_ret
    exact ⟨false, rfl, ⟨fun h => (by cases h), fun h => by have h3 : n ≤ 2 := h.2.2.1; omega⟩, B1.out⟩
  have cell : Hid (∀ i, i < n → A = some ⟨b, o, none⟩ ∧ b < w.heap.size ∧ w.cell? ⟨b, o + i * 2, none⟩ = some (.int .i64 (K i)) ∧ w.cell? ⟨b, o + i * 2 + 1, none⟩ = some (.int .i64 (V i))) := fun i hi => ⟨h3 (by omega), World.block_lt_of_cell? _ _ (h4 i hi).1, (h4 i hi).1, (h4 i hi).2⟩
  clear h3 h4
  go_enter Try.func42, Try.ntmps42
  go_wp2_with fail
  go_loopg [24] n (fun g i wr => ∃ k : Nat, (g = n - k ∧ k ≤ n ∧ (∀ j, j < k → isK (K j) = true ∧ isN (V j) = true) ∧ Below (w.heap.size + 1) (w.alloc (.cells #[.string (bsL d), .string (bsL s), .slice A n cap, .int .i64 T] 40)) wr) ∧ i = .int .i64 (k : Int))
  case atStart => exact ⟨0, ⟨rfl, by omega, fun j hj => by omega, Below.refl _ _⟩, rfl⟩
  case round =>
    obtain ⟨k, ⟨hg, hk, hR, hB⟩, rfl⟩ := hrel
    have HK : Hid (gk = n - k ∧ (∀ j, j < k → isK (K j) = true ∧ isN (V j) = true) ∧ Below (w.heap.size + 1) (w.alloc (.cells #[.string (bsL d), .string (bsL s), .slice A n cap, .int .i64 T] 40)) wr) := ⟨hg, hR, hB⟩
    have hsz := hB.size
    clear hg hR
    by_cases hz : k < n
    · obtain ⟨rfl, hb, e1, e2⟩ := cell.out k hz
      have f1 := below_old hB e1
      have f2 := below_old hB e2
      have bn : (k : Int) < n := by omega
      clear hB e1 e2
      have HB : Hid (Below (w.heap.size + 1) (w.alloc (.cells #[.string (bsL d), .string (bsL s), .slice (some ⟨b, o, none⟩) n cap, .int .i64 T] 40)) (wr.alloc (.cells #[.int .i64 (K k), .int .i64 (V k)] 83))) := HK.out.2.2.alloc (by simpa using hsz) _
      by_cases hK : isK (K k) = true
      rotate_left
      · have hK' : isK (K k) = false := by simpa using hK
        clear hK
        go_wp2_with fail
        refine (kind_any (K k) _).mono ?_
        rintro e w1 ⟨rfl, rfl⟩
        go_wp2_with fail
        go_ret
        exact ⟨false, rfl, ⟨fun h => (by cases h), fun h => by have h1 := (h.2.2.2.1 k hz).1; simp only at h1; rw [hK'] at h1; cases h1⟩, below_since HB.out⟩
      by_cases hV : isN (V k) = true
      rotate_left
      · have hV' : isN (V k) = false := by simpa using hV
        clear hV
        go_wp2_with fail
        refine (kind_any (K k) _).mono ?_
        rintro e w1 ⟨rfl, rfl⟩
        go_wp2_with fail
        refine (number_is (V k) _).mono ?_
        rintro e w1 ⟨rfl, rfl⟩
        go_wp2_with fail
        go_ret
        exact ⟨false, rfl, ⟨fun h => (by cases h), fun h => by have h1 := (h.2.2.2.1 k hz).2; simp only at h1; rw [hV'] at h1; cases h1⟩, below_since HB.out⟩
      go_wp2_with fail
      refine (kind_any (K k) _).mono ?_
      rintro e w1 ⟨rfl, rfl⟩
      go_wp2_with fail
      refine (number_is (V k) _).mono ?_
      rintro e w1 ⟨rfl, rfl⟩
      go_wp2_with fail
      go_roundg (n - (k + 1))
      case measure => have := HK.out.1; omega
      case rel =>
        refine ⟨k + 1, ⟨rfl, by omega, fun j hj => ?_, HB.out⟩, by go_num⟩
        by_cases e : j = k
        · rw [e]; exact ⟨hK, hV⟩
        · exact HK.out.2.1 j (by omega)
    · have f3 := below_new hB 3
      clear hB
      have hT : Hid (isN T = true ∧ isK T = false ∨ ¬ (isN T = true ∧ isK T = false)) := Classical.em _
      have END : Hid (∀ B : Bool, (B = true ↔ isN T = true ∧ isK T = false) → TellsB w (RightP ⟨d, s, n, K, V, T⟩) (.returned (.bool B)) wr) := fun B hB => by
        refine ⟨B, rfl, hB.trans ⟨fun h => ⟨D1.out.1, D1.out.2, by show n ≤ 2; omega, fun i hi => HK.out.2.1 i (by simp only at hi; omega), h.1, h.2⟩, fun h => h.2.2.2.2⟩, below_since HK.out.2.2⟩
      by_cases hN : isN T = true
      rotate_left
      · have hN' : isN T = false := by simpa using hN
        clear hN
        go_wp2_with fail
        refine (number_is T _).mono ?_
        rintro e w1 ⟨rfl, rfl⟩
        go_wp2_with fail
        go_ret
        exact END.out false (by simp [hN'])
      · go_wp2_with fail
        refine (number_is T _).mono ?_
        rintro e w1 ⟨rfl, rfl⟩
        go_wp2_with fail
        refine (kind_any T _).mono ?_
        rintro e w1 ⟨rfl, rfl⟩
        go_wp2_with fail
        go_ret
        exact END.out (!isK T) (by simp [hN])
end Go.Proofs.Yticopigpgaomjaa.L5
