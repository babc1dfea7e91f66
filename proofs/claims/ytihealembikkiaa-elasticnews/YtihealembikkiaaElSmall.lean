
/-
  The document's question whether a sketch is short enough (layer 15).
-/
import Derived.Test.YtihealembikkiaaElRef
namespace Go.Proofs.Ytihealembikkiaa
open Go.RowKit Fm Bl Lt El L2 L14 Go.Deep
set_option linter.unusedVariables false
set_option maxRecDepth 20000

/-- A bucket that is short enough. -/
def SmallB (b : Bkt) : Prop := b.es.length ≤ 20 ∧ ∀ (j : Nat) (e : Ent), b.es[j]? = some e → e.k.size ≤ 100
set_option maxHeartbeats 3200000 in
theorem esmall_any (w : World) (x : Value) (F : Elk) (h : ElAt w x F) (hb : F.bs.length ≤ 9223372036854775807) (hR : F.R ≤ 9223372036854775807) (hE : ∀ (i : Nat) (b : Bkt), F.bs[i]? = some b → b.es.length ≤ 9223372036854775807 ∧ ∀ (j : Nat) (e : Ent), b.es[j]? = some e → e.k.size ≤ 9223372036854775807) :
    Calls Try.prog 9 #[x] w (TellsB w (SmallE F)) := by
  obtain ⟨bv, rv, rfl, hB, hr⟩ := h
  have SM := hidE fun u (b : Below w.heap.size w u) => small_any u rv F.R F.L F.Z (hr.keep (keep_of_below b)) hR
  obtain ⟨A, cap, b, o, rfl, hc, h3, h4⟩ := hB
  have H3 := hidE h3
  have H4 := hidE h4
  have HE := hidE hE
  obtain ⟨n, hn⟩ : ∃ n, n = F.bs.length := ⟨_, rfl⟩
  have HN := hidE hn
  have BX : Hid (Below w.heap.size w (w.alloc (.cells (elc F (.slice A n cap) rv) 32))) := bel_alloc _ _
  have KX : Hid (Blk (w.alloc (.cells (elc F (.slice A n cap) rv) 32)) w.heap.size 32 (elc F (.slice A n cap) rv)) := Blk.new _ _ _
  rw [← hn] at hc hb ⊢
  clear h3 h4 hE hr hn
  unfold elv elc at *
  go_enter Try.func9, Try.ntmps9
  by_cases long : n > 300
  · have NS : Hid (¬ SmallE F) := fun h => by have := h.1; rw [← HN.out] at this; omega
    have bl : (n : Int) > 300 := by omega
    go_wp2_with fail
    go_ret
    exact ⟨false, rfl, ⟨fun h => (by cases h), fun h => absurd h NS.out⟩, BX.out⟩
  have bl : ¬ (n : Int) > 300 := by omega
  go_wp2_with fail
  generalize w.alloc (.cells #[.int .u64 F.S, .int .i64 F.room, .int .i64 F.votes, .slice A n cap, .int .u64 F.LS, .int .i64 F.LM, rv] 32) = X at BX KX ⊢
  refine (SM.out _ BX.out).mono ?_
  rintro e u1 ⟨B, rfl, hB, rfl⟩
  cases B with
  | false =>
    have NS : Hid (¬ SmallE F) := fun h => by cases hB.2 h.2.1
    go_wp2_with fail
    go_ret
    exact ⟨false, rfl, ⟨fun h => (by cases h), fun h => absurd h NS.out⟩, BX.out⟩
  | true =>
    have RS := hidE (hB.1 rfl)
    clear hB SM
    go_wp2_with fail
    go_loopg [3] n (fun gk i wr => ∃ k : Nat, (gk = n - k ∧ k ≤ n ∧ Below u1.heap.size u1 wr ∧ ∀ (i : Nat) (b : Bkt), i < k → F.bs[i]? = some b → SmallB b) ∧ i = .int .i64 (k : Int))
    case atStart => exact ⟨0, ⟨rfl, by omega, Below.refl _ _, fun i b hi => by omega⟩, rfl⟩
    case round =>
      obtain ⟨k, ⟨hgk, hk, hB, hS⟩, rfl⟩ := hrel
      have HB := hidE hB
      have HG := hidE hgk
      have HS := hidE hS
      have x3 : wr.cell? ⟨w.heap.size, 3, none⟩ = some (.slice A n cap) := (KX.out.since HB.out).cell 3
      clear hB hgk hS
      by_cases kz : k < n
      · have bk : (k : Int) < (n : Int) := by omega
        have bk0 : (0 : Int) ≤ (k : Int) := by omega
        obtain rfl := H3.out (by rw [← HN.out]; omega)
        obtain ⟨y, hy⟩ : ∃ y, F.bs[k]? = some y := ⟨_, List.getElem?_eq_getElem (by rw [← HN.out]; exact kz)⟩
        obtain ⟨ev, q1, _, A2, cp2, b2, o2, rfl, hc2, h5, h6⟩ := H4.out k y hy
        have q1 := keep_of_below (bel_trans BX.out HB.out) _ _ q1
        have H5 := hidE h5
        have H6 := hidE h6
        have HY := hidE hy
        have ee := HE.out k y hy
        have KE := hidE ee.2
        obtain ⟨m, hm⟩ : ∃ m, m = y.es.length := ⟨_, rfl⟩
        have HM := hidE hm
        have em := ee.1
        rw [← hm] at q1 hc2 em
        clear h5 h6 hy ee hm
        by_cases l2 : m > 20
        · have bl2 : (m : Int) > 20 := by omega
          have NS : Hid (¬ SmallE F) := fun h => by have := (h.2.2 k y HY.out).1; rw [← HM.out] at this; omega
          go_wp2_with fail
          go_ret
          exact ⟨false, rfl, ⟨fun h => (by cases h), fun h => absurd h NS.out⟩, bel_trans BX.out HB.out⟩
        have bl2 : ¬ (m : Int) > 20 := by omega
        go_wp2_with fail
        clear x3 q1
        go_loopg [39] m (fun gj i wi => ∃ j : Nat, (gj = m - j ∧ j ≤ m ∧ Below u1.heap.size u1 wi ∧ ∀ (i : Nat) (e : Ent), i < j → y.es[i]? = some e → e.k.size ≤ 100) ∧ i = .int .i64 (j : Int))
        case atStart => exact ⟨0, ⟨rfl, by omega, HB.out, fun i e hi => by omega⟩, rfl⟩
        case round =>
          clear HB
          obtain ⟨j, ⟨hgj, hj, hB, hT⟩, rfl⟩ := hrel
          have HB := hidE hB
          have HJ := hidE hgj
          have HT := hidE hT
          clear hB hgj hT
          by_cases jz : j < m
          · have bj : (j : Int) < (m : Int) := by omega
            have bj0 : (0 : Int) ≤ (j : Int) := by omega
            obtain rfl := H5.out (by rw [← HM.out]; omega)
            obtain ⟨e, he⟩ : ∃ e, y.es[j]? = some e := ⟨_, List.getElem?_eq_getElem (by rw [← HM.out]; exact jz)⟩
            obtain ⟨p1, p2, p3⟩ := H6.out j e he
            have hk9 := KE.out j e he
            have HEE := hidE he
            obtain ⟨t, d, f⟩ := e
            simp only at p1 p2 p3 hk9
            have p1 := keep_of_below (bel_trans BX.out HB.out) _ _ p1
            have p2 := keep_of_below (bel_trans BX.out HB.out) _ _ p2
            have p3 := keep_of_below (bel_trans BX.out HB.out) _ _ p3
            clear he
            by_cases l3 : t.size > 100
            · have bl3 : (t.size : Int) > 100 := by omega
              have NS : Hid (¬ SmallE F) := fun h => by have := (h.2.2 k y HY.out).2 j _ HEE.out; simp only at this; omega
              go_wp2_with fail
              go_ret
              exact ⟨false, rfl, ⟨fun h => (by cases h), fun h => absurd h NS.out⟩, bel_trans BX.out (bel_trans HB.out (bel_alloc _ _))⟩
            · have bl3 : ¬ (t.size : Int) > 100 := by omega
              go_wp2_with fail
              go_roundg (m - (j + 1))
              case measure => have := HJ.out; omega
              case rel => exact ⟨j + 1, ⟨rfl, by omega, bel_trans HB.out (bel_alloc _ _), fun i e hi he => by
                by_cases z : i = j
                · subst z
                  rw [HEE.out] at he
                  cases he
                  show t.size ≤ 100
                  omega
                · exact HT.out i e (by omega) he⟩, by go_num⟩
          · have bj : ¬ (j : Int) < (m : Int) := by omega
            go_wp2_with fail
            go_roundg (n - (k + 1))
            case measure => have := HG.out; omega
            case rel => exact ⟨k + 1, ⟨rfl, by omega, HB.out, fun i b hi hb => by
              by_cases z : i = k
              · subst z
                rw [HY.out] at hb
                cases hb
                exact ⟨by rw [← HM.out]; omega, fun i e he => HT.out i e (by have := (List.getElem?_eq_some_iff.1 he).1; have := HM.out; omega) he⟩
              · exact HS.out i b (by omega) hb⟩, by go_num⟩
      · have bk : ¬ (k : Int) < (n : Int) := by omega
        have YS : Hid (SmallE F) := ⟨by rw [← HN.out]; omega, RS.out, fun i b hb => HS.out i b (by have := (List.getElem?_eq_some_iff.1 hb).1; have := HN.out; omega) hb⟩
        go_wp2_with fail
        go_ret
        exact ⟨true, rfl, ⟨fun _ => YS.out, fun _ => rfl⟩, bel_trans BX.out HB.out⟩
end Go.Proofs.Ytihealembikkiaa
