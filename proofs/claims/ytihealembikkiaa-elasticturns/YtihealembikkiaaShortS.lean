
/-
  Are keys few, and short: the document's own function (of no layer).
-/
import Derived.Test.YtihealembikkiaaBlmOpen
import Derived.WalkKit
import Derived.BigQuiet
namespace Go.Proofs.Ytihealembikkiaa.L10
open Go.RowKit Fm Bl L2 Go.Deep
set_option linter.unusedVariables false
set_option maxRecDepth 20000

set_option maxHeartbeats 1600000 in
theorem short_300 (w : World) (v : Value) (n : Nat) (L : Nat → ByteArray) (h : StrsAt w v n L) (hn : n ≤ 9223372036854775807) (hl : ∀ i, i < n → (L i).size ≤ 9223372036854775807) :
    Calls Try.prog 49 #[v, .int .i64 300] w (TellsB w (n ≤ 300 ∧ ∀ i, i < n → (L i).size ≤ 100)) := by
  obtain ⟨A, cap, b, o, rfl, hx1, q3, q4⟩ := h
  have Q3 : Hid (0 < n → A = some ⟨b, o, none⟩) := q3
  have Q4 : Hid (∀ i, i < n → w.cell? ⟨b, o + i, none⟩ = some (.string (L i))) := q4
  have HL : Hid (∀ i, i < n → (L i).size ≤ 9223372036854775807) := hl
  clear hx1 q3 q4 hl
  by_cases h30 : n ≤ 300
  rotate_left
  · have HN : Hid (¬ n ≤ 300) := h30
    have q : (300 : Int) < (n : Int) := by omega
    clear h30
    go_enter Try.func49, Try.ntmps49
    go_wp2_with fail
    go_ret
    exact ⟨false, rfl, ⟨fun h => (by cases h), fun h => absurd h.1 HN.out⟩, Below.refl _ _⟩
  have HN : Hid (n ≤ 300) := h30
  have q : ¬ (300 : Int) < (n : Int) := by omega
  go_enter Try.func49, Try.ntmps49
  go_wp2_with fail
  go_loop [5] (fun i => ∃ k : Nat, (k ≤ n ∧ ∀ j, j < k → (L j).size ≤ 100) ∧ i = .int .i64 (k : Int)) (fun i => n - (intOf i).toNat)
  case atStart => exact ⟨0, ⟨by omega, fun j hj => by omega⟩, rfl⟩
  case round =>
    obtain ⟨k, ⟨hk, ha⟩, rfl⟩ := hrel
    have HA : Hid (∀ j, j < k → (L j).size ≤ 100) := ha
    clear ha
    by_cases hlt : k < n
    · obtain rfl := Q3.out (by omega)
      have c1 := Q4.out k hlt
      have hz := HL.out k hlt
      have b1 : (k : Int) < (n : Int) := by omega
      by_cases hB : (L k).size ≤ 100
      · have HB : Hid ((L k).size ≤ 100) := hB
        have q2 : ¬ (100 : Int) < ((L k).size : Int) := by omega
        generalize hs : L k = s at c1 hz hB q2
        clear hs
        go_wp2_with fail
        go_round
        case rel =>
          refine ⟨k + 1, ⟨by omega, fun j hj => ?_⟩, by go_num⟩
          by_cases e : j = k
          · rw [e]; exact HB.out
          · exact HA.out j (by omega)
        case measure => simp [intOf]; omega
      · have HB : Hid (¬ (L k).size ≤ 100) := hB
        have q2 : (100 : Int) < ((L k).size : Int) := by omega
        generalize hs : L k = s at c1 hz hB q2
        clear hs hB
        go_wp2_with fail
        go_ret
        first
          | exact ⟨false, rfl, ⟨fun h => (by cases h), fun h => absurd (h.2 k hlt) HB.out⟩, Below.refl _ _⟩
          | exact ⟨false, rfl, ⟨fun h => (by cases h), fun h => absurd (h k hlt) HB.out⟩, Below.refl _ _⟩
    · have e : k = n := by omega
      have HE : Hid (k = n) := e
      have b1 : ¬ (k : Int) < (n : Int) := by omega
      clear e hlt hk
      go_wp2_with fail
      go_ret
      first
        | exact ⟨true, rfl, ⟨fun _ => ⟨HN.out, fun i hi => HA.out i (by rw [HE.out]; exact hi)⟩, fun _ => rfl⟩, Below.refl _ _⟩
        | exact ⟨true, rfl, ⟨fun _ i hi => HA.out i (by rw [HE.out]; exact hi), fun _ => rfl⟩, Below.refl _ _⟩
end Go.Proofs.Ytihealembikkiaa.L10
