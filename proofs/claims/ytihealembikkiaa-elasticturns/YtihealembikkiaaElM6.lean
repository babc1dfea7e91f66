
/-
  The document's question whether a sketch is short enough (layer 15).
  The document's question whether a sketch is right (layer 15).
  A sketch of the program as the document's (layer 15): the laws' own ref.
-/
import Derived.Test.YtihealembikkiaaElRef
import Derived.Test.YtihealembikkiaaElPut
import Derived.Test.YtihealembikkiaaElM1
import Derived.Deep.Cut
namespace Go.Proofs.Ytihealembikkiaa
open Go.RowKit Fm Bl Lt El L2 L14 Go.Deep
set_option linter.unusedVariables false
set_option maxRecDepth 20000

/-- A bucket that is short enough. -/
def SmallB (b : Bkt) : Prop := b.es.length ≤ 20 ∧ ∀ (j : Nat) (e : Ent), b.es[j]? = some e → e.k.size ≤ 100
set_option maxHeartbeats 3200000 in
theorem esmall_any (w : World) (x : Value) (F : Elk) (h : ElAt w x F) (hb : F.bs.length ≤ 9223372036854775807) (hR : F.R ≤ 9223372036854775807) (hE : ∀ (i : Nat) (b : Bkt), F.bs[i]? = some b → b.es.length ≤ 9223372036854775807 ∧ ∀ (j : Nat) (e : Ent), b.es[j]? = some e → e.k.size ≤ 9223372036854775807) :
    Calls Try.prog 9 #[x] w (TellsB w (SmallE F)) := by
  obtain ⟨bv, rv, rfl, hB, hr⟩ := h
  have SM := hidE fun u (b : Below w.heap.size w u) => small_any u rv F.R F.L F.Z (hr.keep (keep_of_below b)) hR
  obtain ⟨A, cap, b, o, rfl, hc, h3, h4⟩ := hB
  have H3 := hidE h3
  have H4 := hidE h4
  have HE := hidE hE
  obtain ⟨n, hn⟩ : ∃ n, n = F.bs.length := ⟨_, rfl⟩
  have HN := hidE hn
  have BX : Hid (Below w.heap.size w (w.alloc (.cells (elc F (.slice A n cap) rv) 32))) := bel_alloc _ _
  have KX : Hid (Blk (w.alloc (.cells (elc F (.slice A n cap) rv) 32)) w.heap.size 32 (elc F (.slice A n cap) rv)) := Blk.new _ _ _
  rw [← hn] at hc hb ⊢
  clear h3 h4 hE hr hn
  unfold elv elc at *
  go_enter Try.func9, Try.ntmps9
  by_cases long : n > 300
  · have NS : Hid (¬ SmallE F) := fun h => by have := h.1; rw [← HN.out] at this; omega
    have bl : (n : Int) > 300 := by omega
    go_wp2_with fail
    go_ret
    exact ⟨false, rfl, ⟨fun h => (by cases h), fun h => absurd h NS.out⟩, BX.out⟩
  have bl : ¬ (n : Int) > 300 := by omega
  go_wp2_with fail
  generalize w.alloc (.cells #[.int .u64 F.S, .int .i64 F.room, .int .i64 F.votes, .slice A n cap, .int .u64 F.LS, .int .i64 F.LM, rv] 32) = X at BX KX ⊢
  refine (SM.out _ BX.out).mono ?_
  rintro e u1 ⟨B, rfl, hB, rfl⟩
  cases B with
  | false =>
    have NS : Hid (¬ SmallE F) := fun h => by cases hB.2 h.2.1
    go_wp2_with fail
    go_ret
    exact ⟨false, rfl, ⟨fun h => (by cases h), fun h => absurd h NS.out⟩, BX.out⟩
  | true =>
    have RS := hidE (hB.1 rfl)
    clear hB SM
    go_wp2_with fail
    go_loopg [3] n (fun gk i wr => ∃ k : Nat, (gk = n - k ∧ k ≤ n ∧ Below u1.heap.size u1 wr ∧ ∀ (i : Nat) (b : Bkt), i < k → F.bs[i]? = some b → SmallB b) ∧ i = .int .i64 (k : Int))
    case atStart => exact ⟨0, ⟨rfl, by omega, Below.refl _ _, fun i b hi => by omega⟩, rfl⟩
    case round =>
      obtain ⟨k, ⟨hgk, hk, hB, hS⟩, rfl⟩ := hrel
      have HB := hidE hB
      have HG := hidE hgk
      have HS := hidE hS
      have x3 : wr.cell? ⟨w.heap.size, 3, none⟩ = some (.slice A n cap) := (KX.out.since HB.out).cell 3
      clear hB hgk hS
      by_cases kz : k < n
      · have bk : (k : Int) < (n : Int) := by omega
        have bk0 : (0 : Int) ≤ (k : Int) := by omega
        obtain rfl := H3.out (by rw [← HN.out]; omega)
        obtain ⟨y, hy⟩ : ∃ y, F.bs[k]? = some y := ⟨_, List.getElem?_eq_getElem (by rw [← HN.out]; exact kz)⟩
        obtain ⟨ev, q1, _, A2, cp2, b2, o2, rfl, hc2, h5, h6⟩ := H4.out k y hy
        have q1 := keep_of_below (bel_trans BX.out HB.out) _ _ q1
        have H5 := hidE h5
        have H6 := hidE h6
        have HY := hidE hy
        have ee := HE.out k y hy
        have KE := hidE ee.2
        obtain ⟨m, hm⟩ : ∃ m, m = y.es.length := ⟨_, rfl⟩
        have HM := hidE hm
        have em := ee.1
        rw [← hm] at q1 hc2 em
        clear h5 h6 hy ee hm
        by_cases l2 : m > 20
        · have bl2 : (m : Int) > 20 := by omega
          have NS : Hid (¬ SmallE F) := fun h => by have := (h.2.2 k y HY.out).1; rw [← HM.out] at this; omega
          go_wp2_with fail
          go_ret
          exact ⟨false, rfl, ⟨fun h => (by cases h), fun h => absurd h NS.out⟩, bel_trans BX.out HB.out⟩
        have bl2 : ¬ (m : Int) > 20 := by omega
        go_wp2_with fail
        clear x3 q1
        go_loopg [39] m (fun gj i wi => ∃ j : Nat, (gj = m - j ∧ j ≤ m ∧ Below u1.heap.size u1 wi ∧ ∀ (i : Nat) (e : Ent), i < j → y.es[i]? = some e → e.k.size ≤ 100) ∧ i = .int .i64 (j : Int))
        case atStart => exact ⟨0, ⟨rfl, by omega, HB.out, fun i e hi => by omega⟩, rfl⟩
        case round =>
          clear HB
          obtain ⟨j, ⟨hgj, hj, hB, hT⟩, rfl⟩ := hrel
          have HB := hidE hB
          have HJ := hidE hgj
          have HT := hidE hT
          clear hB hgj hT
          by_cases jz : j < m
          · have bj : (j : Int) < (m : Int) := by omega
            have bj0 : (0 : Int) ≤ (j : Int) := by omega
            obtain rfl := H5.out (by rw [← HM.out]; omega)
            obtain ⟨e, he⟩ : ∃ e, y.es[j]? = some e := ⟨_, List.getElem?_eq_getElem (by rw [← HM.out]; exact jz)⟩
            obtain ⟨p1, p2, p3⟩ := H6.out j e he
            have hk9 := KE.out j e he
            have HEE := hidE he
            obtain ⟨t, d, f⟩ := e
            simp only at p1 p2 p3 hk9
            have p1 := keep_of_below (bel_trans BX.out HB.out) _ _ p1
            have p2 := keep_of_below (bel_trans BX.out HB.out) _ _ p2
            have p3 := keep_of_below (bel_trans BX.out HB.out) _ _ p3
            clear he
            by_cases l3 : t.size > 100
            · have bl3 : (t.size : Int) > 100 := by omega
              have NS : Hid (¬ SmallE F) := fun h => by have := (h.2.2 k y HY.out).2 j _ HEE.out; simp only at this; omega
              go_wp2_with fail
              go_ret
              exact ⟨false, rfl, ⟨fun h => (by cases h), fun h => absurd h NS.out⟩, bel_trans BX.out (bel_trans HB.out (bel_alloc _ _))⟩
            · have bl3 : ¬ (t.size : Int) > 100 := by omega
              go_wp2_with fail
              go_roundg (m - (j + 1))
              case measure => have := HJ.out; omega
              case rel => exact ⟨j + 1, ⟨rfl, by omega, bel_trans HB.out (bel_alloc _ _), fun i e hi he => by
                by_cases z : i = j
                · subst z
                  rw [HEE.out] at he
                  cases he
                  show t.size ≤ 100
                  omega
                · exact HT.out i e (by omega) he⟩, by go_num⟩
          · have bj : ¬ (j : Int) < (m : Int) := by omega
            go_wp2_with fail
            go_roundg (n - (k + 1))
            case measure => have := HG.out; omega
            case rel => exact ⟨k + 1, ⟨rfl, by omega, HB.out, fun i b hi hb => by
              by_cases z : i = k
              · subst z
                rw [HY.out] at hb
                cases hb
                exact ⟨by rw [← HM.out]; omega, fun i e he => HT.out i e (by have := (List.getElem?_eq_some_iff.1 he).1; have := HM.out; omega) he⟩
              · exact HS.out i b (by omega) hb⟩, by go_num⟩
      · have bk : ¬ (k : Int) < (n : Int) := by omega
        have YS : Hid (SmallE F) := ⟨by rw [← HN.out]; omega, RS.out, fun i b hb => HS.out i b (by have := (List.getElem?_eq_some_iff.1 hb).1; have := HN.out; omega) hb⟩
        go_wp2_with fail
        go_ret
        exact ⟨true, rfl, ⟨fun _ => YS.out, fun _ => rfl⟩, bel_trans BX.out HB.out⟩
end Go.Proofs.Ytihealembikkiaa
namespace Go.Proofs.Ytihealembikkiaa
open Go.RowKit Fm Bl Lt El L2 L14 Go.Deep
set_option linter.unusedVariables false
set_option maxRecDepth 20000

/-- What the inner walk keeps. -/
structure RtIn (X wr : World) (gb : Nat) (A2 : Option Addr) (m cp2 : Nat) (ag : Int) : Prop where
  since : Below X.heap.size X wr
  xb : Blk wr gb 74 #[.slice A2 m cp2, .int .i64 ag]
theorem RtIn.next {X wr u : World} {gb : Nat} {A2 : Option Addr} {m cp2 : Nat} {ag : Int} (h : RtIn X wr gb A2 m cp2 ag) (b : Below wr.heap.size wr u) : RtIn X u gb A2 m cp2 ag := ⟨bel_trans h.since b, h.xb.since b⟩
/-- An entry that is right. -/
def RightI (b : Bkt) (i : Nat) (e : Ent) : Prop := 1 ≤ e.v ∧ e.v ≤ 1099511627776 ∧ atE b.es e.k = some i
set_option maxHeartbeats 6400000 in
set_option maxRecDepth 20000 in
theorem eright_any (w : World) (x : Value) (F : Elk) (h : ElAt w x F) (uS : U F.S) (sm : SmallE F) :
    Calls Try.prog 14 #[x] w (TellsB w (RightE F)) := by
  obtain ⟨bv, rv, rfl, hB, hr⟩ := h
  have RR := hidE fun u (b : Below w.heap.size w u) => rright_any u (.agg #[.int .u64 F.LS, .int .i64 F.LM, rv]) F.LS F.LM F.R F.L F.Z ⟨rv, rfl, hr.keep (keep_of_below b)⟩ (by have := sm.2.1.1; omega) fun i hi => by have := sm.2.1.2 i hi; omega
  obtain ⟨A, cap, b, o, rfl, hc, h3, h4⟩ := hB
  have H3 := hidE h3
  have H4 := hidE h4
  have SM := hidE sm
  obtain ⟨n, hn⟩ : ∃ n, n = F.bs.length := ⟨_, rfl⟩
  have HN := hidE hn
  have n300 := sm.1
  have BX : Hid (Below w.heap.size w (w.alloc (.cells (elc F (.slice A n cap) rv) 32))) := bel_alloc _ _
  have KX : Hid (Blk (w.alloc (.cells (elc F (.slice A n cap) rv) 32)) w.heap.size 32 (elc F (.slice A n cap) rv)) := Blk.new _ _ _
  rw [← hn] at hc n300 ⊢
  clear h3 h4 hr hn sm
  unfold elv elc at *
  by_cases g1 : F.room < 1
  · have NS : Hid (¬ RightE F) := fun h => by unfold RightE at h; omega
    go_enter Try.func14, Try.ntmps14
    go_wp2_with fail
    go_ret
    exact ⟨false, rfl, ⟨fun h => (by cases h), fun h => absurd h NS.out⟩, BX.out⟩
  by_cases g2 : F.room > 8
  · have NS : Hid (¬ RightE F) := fun h => by unfold RightE at h; omega
    go_enter Try.func14, Try.ntmps14
    go_wp2_with fail
    go_ret
    exact ⟨false, rfl, ⟨fun h => (by cases h), fun h => absurd h NS.out⟩, BX.out⟩
  by_cases g3 : F.votes < 1
  · have NS : Hid (¬ RightE F) := fun h => by unfold RightE at h; omega
    go_enter Try.func14, Try.ntmps14
    go_wp2_with fail
    go_ret
    exact ⟨false, rfl, ⟨fun h => (by cases h), fun h => absurd h NS.out⟩, BX.out⟩
  by_cases g4 : F.votes > 64
  · have NS : Hid (¬ RightE F) := fun h => by unfold RightE at h; omega
    go_enter Try.func14, Try.ntmps14
    go_wp2_with fail
    go_ret
    exact ⟨false, rfl, ⟨fun h => (by cases h), fun h => absurd h NS.out⟩, BX.out⟩
  by_cases g5 : n = 0
  · have NS : Hid (¬ RightE F) := fun h => by have := h.2.2.2.2.1; rw [← HN.out] at this; omega
    have q : ((n : Int) == 0) = true := by simp [g5]
    have bq : ¬ (n : Int) > 256 := by omega
    clear g5
    go_enter Try.func14, Try.ntmps14
    go_wp2_with fail
    go_ret
    exact ⟨false, rfl, ⟨fun h => (by cases h), fun h => absurd h NS.out⟩, BX.out⟩
  have q5 : ((n : Int) == 0) = false := by simp; omega
  by_cases g6 : n > 256
  · have NS : Hid (¬ RightE F) := fun h => by have := h.2.2.2.2.2.1; rw [← HN.out] at this; omega
    have q : (n : Int) > 256 := by omega
    go_enter Try.func14, Try.ntmps14
    go_wp2_with fail
    go_ret
    exact ⟨false, rfl, ⟨fun h => (by cases h), fun h => absurd h NS.out⟩, BX.out⟩
  have q6 : ¬ (n : Int) > 256 := by omega
  go_enter Try.func14, Try.ntmps14
  go_wp2_with fail
  generalize w.alloc (.cells #[.int .u64 F.S, .int .i64 F.room, .int .i64 F.votes, .slice A n cap, .int .u64 F.LS, .int .i64 F.LM, rv] 32) = X at BX KX ⊢
  by_cases rp : RightP F.LM F.R F.L F.Z
  rotate_left
  · have NS : Hid (¬ RightE F) := fun h => rp h.2.2.2.2.2.2.1
    have RC : Hid (∀ u, Below w.heap.size w u → Calls Try.prog 36 #[.agg #[.int .u64 F.LS, .int .i64 F.LM, rv]] u fun e w' => e = .returned (.bool false) ∧ Below u.heap.size u w') := fun u b => (RR.out u b).mono fun e w' t => by
      obtain ⟨B, rfl, hB, bb⟩ := t
      cases B with
      | false => exact ⟨rfl, bb⟩
      | true => exact absurd (hB.1 rfl) rp
    clear RR rp
    refine letterQ ?_
    intro QQ hQQ
    have Z0 : Hid (Below X.heap.size X X.drew) := (Below.refl _ _).drew
    refine wp_region_held_drew (S := fun w2 => Below X.heap.size X w2) (by kernel_rfl) Z0.out (fun hHeld => ?_)
    clear hHeld
    generalize X.drew = q0 at Z0 ⊢
    refine wpAnyH_take (i := 0) (v := ?_) rfl (by kernel_rfl) (by kernel_rfl) (by kernel_rfl) (fun _ _ _ h => h) (Or.inl ⟨by rfl, ?_⟩) Z0.out ?_
    rotate_left
    · intro wq hSw; go_simp; first | done | with_reducible rfl
    simp only [List.getElem_toArray, List.getElem_cons_zero, Act.put, List.setIfInBounds_toArray, List.set_cons_zero, List.set_cons_succ]
    refine wpAnyH_take (i := 1) (v := ?_) rfl (by kernel_rfl) (by kernel_rfl) (by kernel_rfl) (fun _ _ _ h => h) (Or.inl ⟨by rfl, ?_⟩) Z0.out ?_
    rotate_left
    · intro wq hSw; have cl0 := (KX.out.since hSw).cell 4; have cl1 := (KX.out.since hSw).cell 5; have cl2 := (KX.out.since hSw).cell 6; go_simp; first | done | with_reducible rfl
    simp only [List.getElem_toArray, List.getElem_cons_zero, List.getElem_cons_succ, Act.put, List.setIfInBounds_toArray, List.set_cons_zero, List.set_cons_succ]
    refine wpAnyH_ready (rs := [2]) (by kernel_rfl) (by simp) ?_
    refine AllReadyH.cons rfl (fun K0 hK0 => ?_) ?_
    rotate_left
    · exact AllReadyH.nil
    refine step_func 36 #[.agg #[.int .u64 F.LS, .int .i64 F.LM, rv]] (by rfl) rfl (by simp [Act.eval]) (fun _ _ => by kernel_rfl) ?_
    refine (RC.out _ (bel_trans BX.out Z0.out)).mono ?_
    rintro e v1 ⟨rfl, b1⟩
    have Z1 := hidE (bel_trans Z0.out b1)
    clear b1
    refine ⟨_, rfl, ?_⟩
    refine hK0.out _ _ (by exact Z1.out) (fun hHeld => ?_)
    clear hK0 K0 hHeld
    simp only [Act.put, List.setIfInBounds_toArray]
    refine wpAnyH_take (i := 3) (v := ?_) rfl (by kernel_rfl) (by kernel_rfl) (by kernel_rfl) (fun _ _ _ h => h) (Or.inl ⟨by rfl, ?_⟩) Z1.out ?_
    rotate_left
    · intro wq hSw; go_simp; first | done | with_reducible rfl
    simp only [List.getElem_toArray, List.getElem_cons_zero, List.getElem_cons_succ, Act.put, List.setIfInBounds_toArray, List.set_cons_zero, List.set_cons_succ]
    refine wpAnyH_take (i := 4) (v := ?_) rfl (by kernel_rfl) (by kernel_rfl) (by kernel_rfl) (fun _ _ _ h => h) (Or.inl ⟨by rfl, ?_⟩) Z1.out ?_
    rotate_left
    · intro wq hSw; go_simp; first | done | with_reducible rfl
    simp only [List.getElem_toArray, List.getElem_cons_zero, List.getElem_cons_succ, Act.put, List.setIfInBounds_toArray, List.set_cons_zero, List.set_cons_succ]
    refine wpAnyH_take (i := 5) (v := undef) rfl (by kernel_rfl) (by kernel_rfl) (by kernel_rfl) (fun _ _ _ h => h) (Or.inr ⟨by rfl, rfl⟩) Z1.out ?_
    simp only [List.getElem_toArray, List.getElem_cons_zero, List.getElem_cons_succ, Act.put, List.setIfInBounds_toArray, List.set_cons_zero, List.set_cons_succ]
    refine wpAnyH_take (i := 6) (v := undef) rfl (by kernel_rfl) (by kernel_rfl) (by kernel_rfl) (fun _ _ _ h => h) (Or.inr ⟨by rfl, rfl⟩) Z1.out ?_
    simp only [List.getElem_toArray, List.getElem_cons_zero, List.getElem_cons_succ, Act.put, List.setIfInBounds_toArray, List.set_cons_zero, List.set_cons_succ]
    refine wpAnyH_take (i := 7) (v := undef) rfl (by kernel_rfl) (by kernel_rfl) (by kernel_rfl) (fun _ _ _ h => h) (Or.inr ⟨by rfl, rfl⟩) Z1.out ?_
    simp only [List.getElem_toArray, List.getElem_cons_zero, List.getElem_cons_succ, Act.put, List.setIfInBounds_toArray, List.set_cons_zero, List.set_cons_succ]
    refine wpAnyH_take (i := 8) (v := undef) rfl (by kernel_rfl) (by kernel_rfl) (by kernel_rfl) (fun _ _ _ h => h) (Or.inr ⟨by rfl, rfl⟩) Z1.out ?_
    simp only [List.getElem_toArray, List.getElem_cons_zero, List.getElem_cons_succ, Act.put, List.setIfInBounds_toArray, List.set_cons_zero, List.set_cons_succ]
    refine wpAnyH_take (i := 9) (v := ?_) rfl (by kernel_rfl) (by kernel_rfl) (by kernel_rfl) (fun _ _ _ h => h) (Or.inl ⟨by rfl, ?_⟩) Z1.out ?_
    rotate_left
    · intro wq hSw; go_simp; first | done | with_reducible rfl
    simp only [List.getElem_toArray, List.getElem_cons_zero, List.getElem_cons_succ, Act.put, List.setIfInBounds_toArray, List.set_cons_zero, List.set_cons_succ]
    refine wpAnyH_take (i := 10) (v := ?_) rfl (by kernel_rfl) (by kernel_rfl) (by kernel_rfl) (fun _ _ _ h => h) (Or.inl ⟨by rfl, ?_⟩) Z1.out ?_
    rotate_left
    · intro wq hSw; go_simp; first | done | with_reducible rfl
    simp only [List.getElem_toArray, List.getElem_cons_zero, List.getElem_cons_succ, Act.put, List.setIfInBounds_toArray, List.set_cons_zero, List.set_cons_succ]
    refine wpAnyH_take (i := 11) (v := undef) rfl (by kernel_rfl) (by kernel_rfl) (by kernel_rfl) (fun _ _ _ h => h) (Or.inr ⟨by rfl, rfl⟩) Z1.out ?_
    simp only [List.getElem_toArray, List.getElem_cons_zero, List.getElem_cons_succ, Act.put, List.setIfInBounds_toArray, List.set_cons_zero, List.set_cons_succ]
    refine wpAnyH_take (i := 12) (v := undef) rfl (by kernel_rfl) (by kernel_rfl) (by kernel_rfl) (fun _ _ _ h => h) (Or.inr ⟨by rfl, rfl⟩) Z1.out ?_
    simp only [List.getElem_toArray, List.getElem_cons_zero, List.getElem_cons_succ, Act.put, List.setIfInBounds_toArray, List.set_cons_zero, List.set_cons_succ]
    refine wpAnyH_take (i := 13) (v := undef) rfl (by kernel_rfl) (by kernel_rfl) (by kernel_rfl) (fun _ _ _ h => h) (Or.inr ⟨by rfl, rfl⟩) Z1.out ?_
    simp only [List.getElem_toArray, List.getElem_cons_zero, List.getElem_cons_succ, Act.put, List.setIfInBounds_toArray, List.set_cons_zero, List.set_cons_succ]
    refine wpAnyH_take (i := 14) (v := undef) rfl (by kernel_rfl) (by kernel_rfl) (by kernel_rfl) (fun _ _ _ h => h) (Or.inr ⟨by rfl, rfl⟩) Z1.out ?_
    simp only [List.getElem_toArray, List.getElem_cons_zero, List.getElem_cons_succ, Act.put, List.setIfInBounds_toArray, List.set_cons_zero, List.set_cons_succ]
    refine wpAnyH_take (i := 15) (v := undef) rfl (by kernel_rfl) (by kernel_rfl) (by kernel_rfl) (fun _ _ _ h => h) (Or.inr ⟨by rfl, rfl⟩) Z1.out ?_
    simp only [List.getElem_toArray, List.getElem_cons_zero, List.getElem_cons_succ, Act.put, List.setIfInBounds_toArray, List.set_cons_zero, List.set_cons_succ]
    refine wpAnyH_take (i := 16) (v := undef) rfl (by kernel_rfl) (by kernel_rfl) (by kernel_rfl) (fun _ _ _ h => h) (Or.inr ⟨by rfl, rfl⟩) Z1.out ?_
    simp only [List.getElem_toArray, List.getElem_cons_zero, List.getElem_cons_succ, Act.put, List.setIfInBounds_toArray, List.set_cons_zero, List.set_cons_succ]
    refine wpAnyH_take (i := 17) (v := undef) rfl (by kernel_rfl) (by kernel_rfl) (by kernel_rfl) (fun _ _ _ h => h) (Or.inr ⟨by rfl, rfl⟩) Z1.out ?_
    simp only [List.getElem_toArray, List.getElem_cons_zero, List.getElem_cons_succ, Act.put, List.setIfInBounds_toArray, List.set_cons_zero, List.set_cons_succ]
    refine wpAnyH_take (i := 18) (v := ?_) rfl (by kernel_rfl) (by kernel_rfl) (by kernel_rfl) (fun _ _ _ h => h) (Or.inl ⟨by rfl, ?_⟩) Z1.out ?_
    rotate_left
    · intro wq hSw; go_simp; first | done | with_reducible rfl
    simp only [List.getElem_toArray, List.getElem_cons_zero, List.getElem_cons_succ, Act.put, List.setIfInBounds_toArray, List.set_cons_zero, List.set_cons_succ]
    refine wpAnyH_done (by kernel_rfl) ?_ _
    refine NoPanic.normal ?_
    refine hQQ.out _ _ ?_
    clear hQQ
    go_wp2_with fail
    go_ret
    exact ⟨false, rfl, ⟨fun h => (by cases h), fun h => absurd h NS.out⟩, bel_trans BX.out Z1.out⟩
  have RP := hidE rp
  have RC : Hid (∀ u, Below w.heap.size w u → Calls Try.prog 36 #[.agg #[.int .u64 F.LS, .int .i64 F.LM, rv]] u fun e w' => e = .returned (.bool true) ∧ Below u.heap.size u w') := fun u b => (RR.out u b).mono fun e w' t => by
    obtain ⟨B, rfl, hB, bb⟩ := t
    exact ⟨by rw [hB.2 rp], bb⟩
  clear RR rp
  by_cases g7 : F.LM = 255
  rotate_left
  · have NS : Hid (¬ RightE F) := fun h => g7 h.2.2.2.2.2.2.2.1
    have q : (F.LM != 255) = true := by simp; omega
    clear g7
    refine letterQ ?_
    intro QQ hQQ
    have Z0 : Hid (Below X.heap.size X X.drew) := (Below.refl _ _).drew
    refine wp_region_held_drew (S := fun w2 => Below X.heap.size X w2) (by kernel_rfl) Z0.out (fun hHeld => ?_)
    clear hHeld
    generalize X.drew = q0 at Z0 ⊢
    refine wpAnyH_take (i := 0) (v := ?_) rfl (by kernel_rfl) (by kernel_rfl) (by kernel_rfl) (fun _ _ _ h => h) (Or.inl ⟨by rfl, ?_⟩) Z0.out ?_
    rotate_left
    · intro wq hSw; go_simp; first | done | with_reducible rfl
    simp only [List.getElem_toArray, List.getElem_cons_zero, Act.put, List.setIfInBounds_toArray, List.set_cons_zero, List.set_cons_succ]
    refine wpAnyH_take (i := 1) (v := ?_) rfl (by kernel_rfl) (by kernel_rfl) (by kernel_rfl) (fun _ _ _ h => h) (Or.inl ⟨by rfl, ?_⟩) Z0.out ?_
    rotate_left
    · intro wq hSw; have cl0 := (KX.out.since hSw).cell 4; have cl1 := (KX.out.since hSw).cell 5; have cl2 := (KX.out.since hSw).cell 6; go_simp; first | done | with_reducible rfl
    simp only [List.getElem_toArray, List.getElem_cons_zero, List.getElem_cons_succ, Act.put, List.setIfInBounds_toArray, List.set_cons_zero, List.set_cons_succ]
    refine wpAnyH_ready (rs := [2]) (by kernel_rfl) (by simp) ?_
    refine AllReadyH.cons rfl (fun K0 hK0 => ?_) ?_
    rotate_left
    · exact AllReadyH.nil
    refine step_func 36 #[.agg #[.int .u64 F.LS, .int .i64 F.LM, rv]] (by rfl) rfl (by simp [Act.eval]) (fun _ _ => by kernel_rfl) ?_
    refine (RC.out _ (bel_trans BX.out Z0.out)).mono ?_
    rintro e v1 ⟨rfl, b1⟩
    have Z1 := hidE (bel_trans Z0.out b1)
    clear b1
    refine ⟨_, rfl, ?_⟩
    refine hK0.out _ _ (by exact Z1.out) (fun hHeld => ?_)
    clear hK0 K0 hHeld
    simp only [Act.put, List.setIfInBounds_toArray]
    refine wpAnyH_take (i := 3) (v := ?_) rfl (by kernel_rfl) (by kernel_rfl) (by kernel_rfl) (fun _ _ _ h => h) (Or.inl ⟨by rfl, ?_⟩) Z1.out ?_
    rotate_left
    · intro wq hSw; go_simp; first | done | with_reducible rfl
    simp only [List.getElem_toArray, List.getElem_cons_zero, List.getElem_cons_succ, Act.put, List.setIfInBounds_toArray, List.set_cons_zero, List.set_cons_succ]
    refine wpAnyH_take (i := 4) (v := ?_) rfl (by kernel_rfl) (by kernel_rfl) (by kernel_rfl) (fun _ _ _ h => h) (Or.inl ⟨by rfl, ?_⟩) Z1.out ?_
    rotate_left
    · intro wq hSw; go_simp; first | done | with_reducible rfl
    simp only [List.getElem_toArray, List.getElem_cons_zero, List.getElem_cons_succ, Act.put, List.setIfInBounds_toArray, List.set_cons_zero, List.set_cons_succ]
    refine wpAnyH_take (i := 5) (v := ?_) rfl (by kernel_rfl) (by kernel_rfl) (by kernel_rfl) (fun _ _ _ h => h) (Or.inl ⟨by rfl, ?_⟩) Z1.out ?_
    rotate_left
    · intro wq hSw; go_simp; first | done | with_reducible rfl
    simp only [List.getElem_toArray, List.getElem_cons_zero, List.getElem_cons_succ, Act.put, List.setIfInBounds_toArray, List.set_cons_zero, List.set_cons_succ]
    refine wpAnyH_take (i := 6) (v := ?_) rfl (by kernel_rfl) (by kernel_rfl) (by kernel_rfl) (fun _ _ _ h => h) (Or.inl ⟨by rfl, ?_⟩) Z1.out ?_
    rotate_left
    · intro wq hSw; go_simp; first | done | with_reducible rfl
    simp only [List.getElem_toArray, List.getElem_cons_zero, List.getElem_cons_succ, Act.put, List.setIfInBounds_toArray, List.set_cons_zero, List.set_cons_succ]
    refine wpAnyH_take (i := 7) (v := ?_) rfl (by kernel_rfl) (by kernel_rfl) (by kernel_rfl) (fun _ _ _ h => h) (Or.inl ⟨by rfl, ?_⟩) Z1.out ?_
    rotate_left
    · intro wq hSw; have cl0 := (KX.out.since hSw).cell 5; go_simp; first | done | with_reducible rfl
    simp only [List.getElem_toArray, List.getElem_cons_zero, List.getElem_cons_succ, Act.put, List.setIfInBounds_toArray, List.set_cons_zero, List.set_cons_succ]
    refine wpAnyH_take (i := 8) (v := ?_) rfl (by kernel_rfl) (by kernel_rfl) (by kernel_rfl) (fun _ _ _ h => h) (Or.inl ⟨by rfl, ?_⟩) Z1.out ?_
    rotate_left
    · intro wq hSw; go_simp; first | done | with_reducible rfl
    simp only [List.getElem_toArray, List.getElem_cons_zero, List.getElem_cons_succ, Act.put, List.setIfInBounds_toArray, List.set_cons_zero, List.set_cons_succ]
    refine wpAnyH_take (i := 9) (v := ?_) rfl (by kernel_rfl) (by kernel_rfl) (by kernel_rfl) (fun _ _ _ h => h) (Or.inl ⟨by rfl, ?_⟩) Z1.out ?_
    rotate_left
    · intro wq hSw; go_simp; first | done | with_reducible rfl
    simp only [List.getElem_toArray, List.getElem_cons_zero, List.getElem_cons_succ, Act.put, List.setIfInBounds_toArray, List.set_cons_zero, List.set_cons_succ]
    refine wpAnyH_take (i := 10) (v := ?_) rfl (by kernel_rfl) (by kernel_rfl) (by kernel_rfl) (fun _ _ _ h => h) (Or.inl ⟨by rfl, ?_⟩) Z1.out ?_
    rotate_left
    · intro wq hSw; go_simp; first | done | with_reducible rfl
    simp only [List.getElem_toArray, List.getElem_cons_zero, List.getElem_cons_succ, Act.put, List.setIfInBounds_toArray, List.set_cons_zero, List.set_cons_succ]
    refine wpAnyH_take (i := 11) (v := undef) rfl (by kernel_rfl) (by kernel_rfl) (by kernel_rfl) (fun _ _ _ h => h) (Or.inr ⟨by rfl, rfl⟩) Z1.out ?_
    simp only [List.getElem_toArray, List.getElem_cons_zero, List.getElem_cons_succ, Act.put, List.setIfInBounds_toArray, List.set_cons_zero, List.set_cons_succ]
    refine wpAnyH_take (i := 12) (v := undef) rfl (by kernel_rfl) (by kernel_rfl) (by kernel_rfl) (fun _ _ _ h => h) (Or.inr ⟨by rfl, rfl⟩) Z1.out ?_
    simp only [List.getElem_toArray, List.getElem_cons_zero, List.getElem_cons_succ, Act.put, List.setIfInBounds_toArray, List.set_cons_zero, List.set_cons_succ]
    refine wpAnyH_take (i := 13) (v := undef) rfl (by kernel_rfl) (by kernel_rfl) (by kernel_rfl) (fun _ _ _ h => h) (Or.inr ⟨by rfl, rfl⟩) Z1.out ?_
    simp only [List.getElem_toArray, List.getElem_cons_zero, List.getElem_cons_succ, Act.put, List.setIfInBounds_toArray, List.set_cons_zero, List.set_cons_succ]
    refine wpAnyH_take (i := 14) (v := undef) rfl (by kernel_rfl) (by kernel_rfl) (by kernel_rfl) (fun _ _ _ h => h) (Or.inr ⟨by rfl, rfl⟩) Z1.out ?_
    simp only [List.getElem_toArray, List.getElem_cons_zero, List.getElem_cons_succ, Act.put, List.setIfInBounds_toArray, List.set_cons_zero, List.set_cons_succ]
    refine wpAnyH_take (i := 15) (v := undef) rfl (by kernel_rfl) (by kernel_rfl) (by kernel_rfl) (fun _ _ _ h => h) (Or.inr ⟨by rfl, rfl⟩) Z1.out ?_
    simp only [List.getElem_toArray, List.getElem_cons_zero, List.getElem_cons_succ, Act.put, List.setIfInBounds_toArray, List.set_cons_zero, List.set_cons_succ]
    refine wpAnyH_take (i := 16) (v := undef) rfl (by kernel_rfl) (by kernel_rfl) (by kernel_rfl) (fun _ _ _ h => h) (Or.inr ⟨by rfl, rfl⟩) Z1.out ?_
    simp only [List.getElem_toArray, List.getElem_cons_zero, List.getElem_cons_succ, Act.put, List.setIfInBounds_toArray, List.set_cons_zero, List.set_cons_succ]
    refine wpAnyH_take (i := 17) (v := undef) rfl (by kernel_rfl) (by kernel_rfl) (by kernel_rfl) (fun _ _ _ h => h) (Or.inr ⟨by rfl, rfl⟩) Z1.out ?_
    simp only [List.getElem_toArray, List.getElem_cons_zero, List.getElem_cons_succ, Act.put, List.setIfInBounds_toArray, List.set_cons_zero, List.set_cons_succ]
    refine wpAnyH_take (i := 18) (v := ?_) rfl (by kernel_rfl) (by kernel_rfl) (by kernel_rfl) (fun _ _ _ h => h) (Or.inl ⟨by rfl, ?_⟩) Z1.out ?_
    rotate_left
    · intro wq hSw; go_simp; first | done | with_reducible rfl
    simp only [List.getElem_toArray, List.getElem_cons_zero, List.getElem_cons_succ, Act.put, List.setIfInBounds_toArray, List.set_cons_zero, List.set_cons_succ]
    refine wpAnyH_done (by kernel_rfl) ?_ _
    refine NoPanic.normal ?_
    refine hQQ.out _ _ ?_
    clear hQQ
    go_wp2_with fail
    go_ret
    exact ⟨false, rfl, ⟨fun h => (by cases h), fun h => absurd h NS.out⟩, bel_trans BX.out Z1.out⟩
  have q7 : (F.LM != 255) = false := by simp [g7]
  have G7 := hidE g7
  clear g7
  by_cases g8 : F.LS = rowF F.S 1
  rotate_left
  · have NS : Hid (¬ RightE F) := fun h => g8 h.2.2.2.2.2.2.2.2.1
    have q : (F.LS != rowF F.S 1) = true := by simp; exact g8
    clear g8
    refine letterQ ?_
    intro QQ hQQ
    have Z0 : Hid (Below X.heap.size X X.drew) := (Below.refl _ _).drew
    refine wp_region_held_drew (S := fun w2 => Below X.heap.size X w2) (by kernel_rfl) Z0.out (fun hHeld => ?_)
    clear hHeld
    generalize X.drew = q0 at Z0 ⊢
    refine wpAnyH_take (i := 0) (v := ?_) rfl (by kernel_rfl) (by kernel_rfl) (by kernel_rfl) (fun _ _ _ h => h) (Or.inl ⟨by rfl, ?_⟩) Z0.out ?_
    rotate_left
    · intro wq hSw; go_simp; first | done | with_reducible rfl
    simp only [List.getElem_toArray, List.getElem_cons_zero, Act.put, List.setIfInBounds_toArray, List.set_cons_zero, List.set_cons_succ]
    refine wpAnyH_take (i := 1) (v := ?_) rfl (by kernel_rfl) (by kernel_rfl) (by kernel_rfl) (fun _ _ _ h => h) (Or.inl ⟨by rfl, ?_⟩) Z0.out ?_
    rotate_left
    · intro wq hSw; have cl0 := (KX.out.since hSw).cell 4; have cl1 := (KX.out.since hSw).cell 5; have cl2 := (KX.out.since hSw).cell 6; go_simp; first | done | with_reducible rfl
    simp only [List.getElem_toArray, List.getElem_cons_zero, List.getElem_cons_succ, Act.put, List.setIfInBounds_toArray, List.set_cons_zero, List.set_cons_succ]
    refine wpAnyH_ready (rs := [2]) (by kernel_rfl) (by simp) ?_
    refine AllReadyH.cons rfl (fun K0 hK0 => ?_) ?_
    rotate_left
    · exact AllReadyH.nil
    refine step_func 36 #[.agg #[.int .u64 F.LS, .int .i64 F.LM, rv]] (by rfl) rfl (by simp [Act.eval]) (fun _ _ => by kernel_rfl) ?_
    refine (RC.out _ (bel_trans BX.out Z0.out)).mono ?_
    rintro e v1 ⟨rfl, b1⟩
    have Z1 := hidE (bel_trans Z0.out b1)
    clear b1
    refine ⟨_, rfl, ?_⟩
    refine hK0.out _ _ (by exact Z1.out) (fun hHeld => ?_)
    clear hK0 K0 hHeld
    simp only [Act.put, List.setIfInBounds_toArray]
    refine wpAnyH_take (i := 3) (v := ?_) rfl (by kernel_rfl) (by kernel_rfl) (by kernel_rfl) (fun _ _ _ h => h) (Or.inl ⟨by rfl, ?_⟩) Z1.out ?_
    rotate_left
    · intro wq hSw; go_simp; first | done | with_reducible rfl
    simp only [List.getElem_toArray, List.getElem_cons_zero, List.getElem_cons_succ, Act.put, List.setIfInBounds_toArray, List.set_cons_zero, List.set_cons_succ]
    refine wpAnyH_take (i := 4) (v := ?_) rfl (by kernel_rfl) (by kernel_rfl) (by kernel_rfl) (fun _ _ _ h => h) (Or.inl ⟨by rfl, ?_⟩) Z1.out ?_
    rotate_left
    · intro wq hSw; go_simp; first | done | with_reducible rfl
    simp only [List.getElem_toArray, List.getElem_cons_zero, List.getElem_cons_succ, Act.put, List.setIfInBounds_toArray, List.set_cons_zero, List.set_cons_succ]
    refine wpAnyH_take (i := 5) (v := ?_) rfl (by kernel_rfl) (by kernel_rfl) (by kernel_rfl) (fun _ _ _ h => h) (Or.inl ⟨by rfl, ?_⟩) Z1.out ?_
    rotate_left
    · intro wq hSw; go_simp; first | done | with_reducible rfl
    simp only [List.getElem_toArray, List.getElem_cons_zero, List.getElem_cons_succ, Act.put, List.setIfInBounds_toArray, List.set_cons_zero, List.set_cons_succ]
    refine wpAnyH_take (i := 6) (v := ?_) rfl (by kernel_rfl) (by kernel_rfl) (by kernel_rfl) (fun _ _ _ h => h) (Or.inl ⟨by rfl, ?_⟩) Z1.out ?_
    rotate_left
    · intro wq hSw; go_simp; first | done | with_reducible rfl
    simp only [List.getElem_toArray, List.getElem_cons_zero, List.getElem_cons_succ, Act.put, List.setIfInBounds_toArray, List.set_cons_zero, List.set_cons_succ]
    refine wpAnyH_take (i := 7) (v := ?_) rfl (by kernel_rfl) (by kernel_rfl) (by kernel_rfl) (fun _ _ _ h => h) (Or.inl ⟨by rfl, ?_⟩) Z1.out ?_
    rotate_left
    · intro wq hSw; have cl0 := (KX.out.since hSw).cell 5; go_simp; first | done | with_reducible rfl
    simp only [List.getElem_toArray, List.getElem_cons_zero, List.getElem_cons_succ, Act.put, List.setIfInBounds_toArray, List.set_cons_zero, List.set_cons_succ]
    refine wpAnyH_take (i := 8) (v := ?_) rfl (by kernel_rfl) (by kernel_rfl) (by kernel_rfl) (fun _ _ _ h => h) (Or.inl ⟨by rfl, ?_⟩) Z1.out ?_
    rotate_left
    · intro wq hSw; go_simp; first | done | with_reducible rfl
    simp only [List.getElem_toArray, List.getElem_cons_zero, List.getElem_cons_succ, Act.put, List.setIfInBounds_toArray, List.set_cons_zero, List.set_cons_succ]
    refine wpAnyH_take (i := 9) (v := ?_) rfl (by kernel_rfl) (by kernel_rfl) (by kernel_rfl) (fun _ _ _ h => h) (Or.inl ⟨by rfl, ?_⟩) Z1.out ?_
    rotate_left
    · intro wq hSw; go_simp; first | done | with_reducible rfl
    simp only [List.getElem_toArray, List.getElem_cons_zero, List.getElem_cons_succ, Act.put, List.setIfInBounds_toArray, List.set_cons_zero, List.set_cons_succ]
    refine wpAnyH_take (i := 10) (v := ?_) rfl (by kernel_rfl) (by kernel_rfl) (by kernel_rfl) (fun _ _ _ h => h) (Or.inl ⟨by rfl, ?_⟩) Z1.out ?_
    rotate_left
    · intro wq hSw; go_simp; first | done | with_reducible rfl
    simp only [List.getElem_toArray, List.getElem_cons_zero, List.getElem_cons_succ, Act.put, List.setIfInBounds_toArray, List.set_cons_zero, List.set_cons_succ]
    refine wpAnyH_take (i := 11) (v := ?_) rfl (by kernel_rfl) (by kernel_rfl) (by kernel_rfl) (fun _ _ _ h => h) (Or.inl ⟨by rfl, ?_⟩) Z1.out ?_
    rotate_left
    · intro wq hSw; go_simp; first | done | with_reducible rfl
    simp only [List.getElem_toArray, List.getElem_cons_zero, List.getElem_cons_succ, Act.put, List.setIfInBounds_toArray, List.set_cons_zero, List.set_cons_succ]
    refine wpAnyH_take (i := 12) (v := ?_) rfl (by kernel_rfl) (by kernel_rfl) (by kernel_rfl) (fun _ _ _ h => h) (Or.inl ⟨by rfl, ?_⟩) Z1.out ?_
    rotate_left
    · intro wq hSw; go_simp; first | done | with_reducible rfl
    simp only [List.getElem_toArray, List.getElem_cons_zero, List.getElem_cons_succ, Act.put, List.setIfInBounds_toArray, List.set_cons_zero, List.set_cons_succ]
    refine wpAnyH_take (i := 13) (v := ?_) rfl (by kernel_rfl) (by kernel_rfl) (by kernel_rfl) (fun _ _ _ h => h) (Or.inl ⟨by rfl, ?_⟩) Z1.out ?_
    rotate_left
    · intro wq hSw; have cl0 := (KX.out.since hSw).cell 4; go_simp; first | done | with_reducible rfl
    simp only [List.getElem_toArray, List.getElem_cons_zero, List.getElem_cons_succ, Act.put, List.setIfInBounds_toArray, List.set_cons_zero, List.set_cons_succ]
    refine wpAnyH_take (i := 14) (v := ?_) rfl (by kernel_rfl) (by kernel_rfl) (by kernel_rfl) (fun _ _ _ h => h) (Or.inl ⟨by rfl, ?_⟩) Z1.out ?_
    rotate_left
    · intro wq hSw; go_simp; first | done | with_reducible rfl
    simp only [List.getElem_toArray, List.getElem_cons_zero, List.getElem_cons_succ, Act.put, List.setIfInBounds_toArray, List.set_cons_zero, List.set_cons_succ]
    refine wpAnyH_take (i := 15) (v := ?_) rfl (by kernel_rfl) (by kernel_rfl) (by kernel_rfl) (fun _ _ _ h => h) (Or.inl ⟨by rfl, ?_⟩) Z1.out ?_
    rotate_left
    · intro wq hSw; have cl0 := (KX.out.since hSw).cell 0; go_simp; first | done | with_reducible rfl
    simp only [List.getElem_toArray, List.getElem_cons_zero, List.getElem_cons_succ, Act.put, List.setIfInBounds_toArray, List.set_cons_zero, List.set_cons_succ]
    refine wpAnyH_ready (rs := [16]) (by kernel_rfl) (by simp) ?_
    refine AllReadyH.cons rfl (fun K0 hK0 => ?_) ?_
    rotate_left
    · exact AllReadyH.nil
    refine step_func 37 #[.int .u64 F.S, .int .i64 1] (by rfl) rfl (by simp [Act.eval]) (fun _ _ => by kernel_rfl) ?_
    refine (rrow_any F.S 1 _ uS (by omega)).mono ?_
    rintro e v2 ⟨rfl, rfl⟩
    refine ⟨_, rfl, ?_⟩
    refine hK0.out _ _ (by exact Z1.out) (fun hHeld => ?_)
    clear hK0 K0 hHeld
    simp only [Act.put]
    refine wpAnyH_take (i := 17) (v := ?_) rfl (by kernel_rfl) (by kernel_rfl) (by kernel_rfl) (fun _ _ _ h => h) (Or.inl ⟨by rfl, ?_⟩) Z1.out ?_
    rotate_left
    · intro wq hSw; go_simp; first | done | with_reducible rfl
    simp only [List.getElem_toArray, List.getElem_cons_zero, List.getElem_cons_succ, Act.put, List.setIfInBounds_toArray, List.set_cons_zero, List.set_cons_succ]
    refine wpAnyH_take (i := 18) (v := ?_) rfl (by kernel_rfl) (by kernel_rfl) (by kernel_rfl) (fun _ _ _ h => h) (Or.inl ⟨by rfl, ?_⟩) Z1.out ?_
    rotate_left
    · intro wq hSw; go_simp; first | done | with_reducible rfl
    simp only [List.getElem_toArray, List.getElem_cons_zero, List.getElem_cons_succ, Act.put, List.setIfInBounds_toArray, List.set_cons_zero, List.set_cons_succ]
    refine wpAnyH_done (by kernel_rfl) ?_ _
    refine NoPanic.normal ?_
    refine hQQ.out _ _ ?_
    clear hQQ
    go_wp2_with fail
    go_ret
    exact ⟨false, rfl, ⟨fun h => (by cases h), fun h => absurd h NS.out⟩, bel_trans BX.out Z1.out⟩
  have q8 : (F.LS != rowF F.S 1) = false := by simp [g8]
  have G8 := hidE g8
  clear g8
  refine letterQ ?_
  intro QQ hQQ
  have Z0 : Hid (Below X.heap.size X X.drew) := (Below.refl _ _).drew
  refine wp_region_held_drew (S := fun w2 => Below X.heap.size X w2) (by kernel_rfl) Z0.out (fun hHeld => ?_)
  clear hHeld
  generalize X.drew = q0 at Z0 ⊢
  refine wpAnyH_take (i := 0) (v := ?_) rfl (by kernel_rfl) (by kernel_rfl) (by kernel_rfl) (fun _ _ _ h => h) (Or.inl ⟨by rfl, ?_⟩) Z0.out ?_
  rotate_left
  · intro wq hSw; go_simp; first | done | with_reducible rfl
  simp only [List.getElem_toArray, List.getElem_cons_zero, Act.put, List.setIfInBounds_toArray, List.set_cons_zero, List.set_cons_succ]
  refine wpAnyH_take (i := 1) (v := ?_) rfl (by kernel_rfl) (by kernel_rfl) (by kernel_rfl) (fun _ _ _ h => h) (Or.inl ⟨by rfl, ?_⟩) Z0.out ?_
  rotate_left
  · intro wq hSw; have cl0 := (KX.out.since hSw).cell 4; have cl1 := (KX.out.since hSw).cell 5; have cl2 := (KX.out.since hSw).cell 6; go_simp; first | done | with_reducible rfl
  simp only [List.getElem_toArray, List.getElem_cons_zero, List.getElem_cons_succ, Act.put, List.setIfInBounds_toArray, List.set_cons_zero, List.set_cons_succ]
  refine wpAnyH_ready (rs := [2]) (by kernel_rfl) (by simp) ?_
  refine AllReadyH.cons rfl (fun K0 hK0 => ?_) ?_
  rotate_left
  · exact AllReadyH.nil
  refine step_func 36 #[.agg #[.int .u64 F.LS, .int .i64 F.LM, rv]] (by rfl) rfl (by simp [Act.eval]) (fun _ _ => by kernel_rfl) ?_
  refine (RC.out _ (bel_trans BX.out Z0.out)).mono ?_
  rintro e v1 ⟨rfl, b1⟩
  have Z1 := hidE (bel_trans Z0.out b1)
  clear b1
  refine ⟨_, rfl, ?_⟩
  refine hK0.out _ _ (by exact Z1.out) (fun hHeld => ?_)
  clear hK0 K0 hHeld
  simp only [Act.put, List.setIfInBounds_toArray]
  refine wpAnyH_take (i := 3) (v := ?_) rfl (by kernel_rfl) (by kernel_rfl) (by kernel_rfl) (fun _ _ _ h => h) (Or.inl ⟨by rfl, ?_⟩) Z1.out ?_
  rotate_left
  · intro wq hSw; go_simp; first | done | with_reducible rfl
  simp only [List.getElem_toArray, List.getElem_cons_zero, List.getElem_cons_succ, Act.put, List.setIfInBounds_toArray, List.set_cons_zero, List.set_cons_succ]
  refine wpAnyH_take (i := 4) (v := ?_) rfl (by kernel_rfl) (by kernel_rfl) (by kernel_rfl) (fun _ _ _ h => h) (Or.inl ⟨by rfl, ?_⟩) Z1.out ?_
  rotate_left
  · intro wq hSw; go_simp; first | done | with_reducible rfl
  simp only [List.getElem_toArray, List.getElem_cons_zero, List.getElem_cons_succ, Act.put, List.setIfInBounds_toArray, List.set_cons_zero, List.set_cons_succ]
  refine wpAnyH_take (i := 5) (v := ?_) rfl (by kernel_rfl) (by kernel_rfl) (by kernel_rfl) (fun _ _ _ h => h) (Or.inl ⟨by rfl, ?_⟩) Z1.out ?_
  rotate_left
  · intro wq hSw; go_simp; first | done | with_reducible rfl
  simp only [List.getElem_toArray, List.getElem_cons_zero, List.getElem_cons_succ, Act.put, List.setIfInBounds_toArray, List.set_cons_zero, List.set_cons_succ]
  refine wpAnyH_take (i := 6) (v := ?_) rfl (by kernel_rfl) (by kernel_rfl) (by kernel_rfl) (fun _ _ _ h => h) (Or.inl ⟨by rfl, ?_⟩) Z1.out ?_
  rotate_left
  · intro wq hSw; go_simp; first | done | with_reducible rfl
  simp only [List.getElem_toArray, List.getElem_cons_zero, List.getElem_cons_succ, Act.put, List.setIfInBounds_toArray, List.set_cons_zero, List.set_cons_succ]
  refine wpAnyH_take (i := 7) (v := ?_) rfl (by kernel_rfl) (by kernel_rfl) (by kernel_rfl) (fun _ _ _ h => h) (Or.inl ⟨by rfl, ?_⟩) Z1.out ?_
  rotate_left
  · intro wq hSw; have cl0 := (KX.out.since hSw).cell 5; go_simp; first | done | with_reducible rfl
  simp only [List.getElem_toArray, List.getElem_cons_zero, List.getElem_cons_succ, Act.put, List.setIfInBounds_toArray, List.set_cons_zero, List.set_cons_succ]
  refine wpAnyH_take (i := 8) (v := ?_) rfl (by kernel_rfl) (by kernel_rfl) (by kernel_rfl) (fun _ _ _ h => h) (Or.inl ⟨by rfl, ?_⟩) Z1.out ?_
  rotate_left
  · intro wq hSw; go_simp; first | done | with_reducible rfl
  simp only [List.getElem_toArray, List.getElem_cons_zero, List.getElem_cons_succ, Act.put, List.setIfInBounds_toArray, List.set_cons_zero, List.set_cons_succ]
  refine wpAnyH_take (i := 9) (v := ?_) rfl (by kernel_rfl) (by kernel_rfl) (by kernel_rfl) (fun _ _ _ h => h) (Or.inl ⟨by rfl, ?_⟩) Z1.out ?_
  rotate_left
  · intro wq hSw; go_simp; first | done | with_reducible rfl
  simp only [List.getElem_toArray, List.getElem_cons_zero, List.getElem_cons_succ, Act.put, List.setIfInBounds_toArray, List.set_cons_zero, List.set_cons_succ]
  refine wpAnyH_take (i := 10) (v := ?_) rfl (by kernel_rfl) (by kernel_rfl) (by kernel_rfl) (fun _ _ _ h => h) (Or.inl ⟨by rfl, ?_⟩) Z1.out ?_
  rotate_left
  · intro wq hSw; go_simp; first | done | with_reducible rfl
  simp only [List.getElem_toArray, List.getElem_cons_zero, List.getElem_cons_succ, Act.put, List.setIfInBounds_toArray, List.set_cons_zero, List.set_cons_succ]
  refine wpAnyH_take (i := 11) (v := ?_) rfl (by kernel_rfl) (by kernel_rfl) (by kernel_rfl) (fun _ _ _ h => h) (Or.inl ⟨by rfl, ?_⟩) Z1.out ?_
  rotate_left
  · intro wq hSw; go_simp; first | done | with_reducible rfl
  simp only [List.getElem_toArray, List.getElem_cons_zero, List.getElem_cons_succ, Act.put, List.setIfInBounds_toArray, List.set_cons_zero, List.set_cons_succ]
  refine wpAnyH_take (i := 12) (v := ?_) rfl (by kernel_rfl) (by kernel_rfl) (by kernel_rfl) (fun _ _ _ h => h) (Or.inl ⟨by rfl, ?_⟩) Z1.out ?_
  rotate_left
  · intro wq hSw; go_simp; first | done | with_reducible rfl
  simp only [List.getElem_toArray, List.getElem_cons_zero, List.getElem_cons_succ, Act.put, List.setIfInBounds_toArray, List.set_cons_zero, List.set_cons_succ]
  refine wpAnyH_take (i := 13) (v := ?_) rfl (by kernel_rfl) (by kernel_rfl) (by kernel_rfl) (fun _ _ _ h => h) (Or.inl ⟨by rfl, ?_⟩) Z1.out ?_
  rotate_left
  · intro wq hSw; have cl0 := (KX.out.since hSw).cell 4; go_simp; first | done | with_reducible rfl
  simp only [List.getElem_toArray, List.getElem_cons_zero, List.getElem_cons_succ, Act.put, List.setIfInBounds_toArray, List.set_cons_zero, List.set_cons_succ]
  refine wpAnyH_take (i := 14) (v := ?_) rfl (by kernel_rfl) (by kernel_rfl) (by kernel_rfl) (fun _ _ _ h => h) (Or.inl ⟨by rfl, ?_⟩) Z1.out ?_
  rotate_left
  · intro wq hSw; go_simp; first | done | with_reducible rfl
  simp only [List.getElem_toArray, List.getElem_cons_zero, List.getElem_cons_succ, Act.put, List.setIfInBounds_toArray, List.set_cons_zero, List.set_cons_succ]
  refine wpAnyH_take (i := 15) (v := ?_) rfl (by kernel_rfl) (by kernel_rfl) (by kernel_rfl) (fun _ _ _ h => h) (Or.inl ⟨by rfl, ?_⟩) Z1.out ?_
  rotate_left
  · intro wq hSw; have cl0 := (KX.out.since hSw).cell 0; go_simp; first | done | with_reducible rfl
  simp only [List.getElem_toArray, List.getElem_cons_zero, List.getElem_cons_succ, Act.put, List.setIfInBounds_toArray, List.set_cons_zero, List.set_cons_succ]
  refine wpAnyH_ready (rs := [16]) (by kernel_rfl) (by simp) ?_
  refine AllReadyH.cons rfl (fun K0 hK0 => ?_) ?_
  rotate_left
  · exact AllReadyH.nil
  refine step_func 37 #[.int .u64 F.S, .int .i64 1] (by rfl) rfl (by simp [Act.eval]) (fun _ _ => by kernel_rfl) ?_
  refine (rrow_any F.S 1 _ uS (by omega)).mono ?_
  rintro e v2 ⟨rfl, rfl⟩
  refine ⟨_, rfl, ?_⟩
  refine hK0.out _ _ (by exact Z1.out) (fun hHeld => ?_)
  clear hK0 K0 hHeld
  simp only [Act.put]
  refine wpAnyH_take (i := 17) (v := ?_) rfl (by kernel_rfl) (by kernel_rfl) (by kernel_rfl) (fun _ _ _ h => h) (Or.inl ⟨by rfl, ?_⟩) Z1.out ?_
  rotate_left
  · intro wq hSw; go_simp; first | done | with_reducible rfl
  simp only [List.getElem_toArray, List.getElem_cons_zero, List.getElem_cons_succ, Act.put, List.setIfInBounds_toArray, List.set_cons_zero, List.set_cons_succ]
  refine wpAnyH_take (i := 18) (v := ?_) rfl (by kernel_rfl) (by kernel_rfl) (by kernel_rfl) (fun _ _ _ h => h) (Or.inl ⟨by rfl, ?_⟩) Z1.out ?_
  rotate_left
  · intro wq hSw; go_simp; first | done | with_reducible rfl
  simp only [List.getElem_toArray, List.getElem_cons_zero, List.getElem_cons_succ, Act.put, List.setIfInBounds_toArray, List.set_cons_zero, List.set_cons_succ]
  refine wpAnyH_done (by kernel_rfl) ?_ _
  refine NoPanic.normal ?_
  refine hQQ.out _ _ ?_
  clear hQQ
  go_wp2_with fail
  go_loopg [3] n (fun gk i wr => ∃ k : Nat, (gk = n - k ∧ k ≤ n ∧ Below X.heap.size X wr ∧ ∀ (i : Nat) (b : Bkt), i < k → F.bs[i]? = some b → RightB F.room b) ∧ i = .int .i64 (k : Int))
  case atStart => exact ⟨0, ⟨rfl, by omega, Z1.out, fun i b hi => by omega⟩, rfl⟩
  case round =>
    clear Z1 RC
    obtain ⟨k, ⟨hgk, hk, hB, hS⟩, rfl⟩ := hrel
    have HB := hidE hB
    have HG := hidE hgk
    have HS := hidE hS
    have x3 : wr.cell? ⟨w.heap.size, 3, none⟩ = some (.slice A n cap) := (KX.out.since HB.out).cell 3
    have x1 : ∀ u, Below X.heap.size X u → u.cell? ⟨w.heap.size, 1, none⟩ = some (.int .i64 F.room) := fun u h => (KX.out.since h).cell 1
    have X1 := hidE x1
    clear hB hgk hS x1
    by_cases kz : k < n
    · have bk : (k : Int) < (n : Int) := by omega
      have bk0 : (0 : Int) ≤ (k : Int) := by omega
      obtain rfl := H3.out (by rw [← HN.out]; omega)
      obtain ⟨y, hy⟩ : ∃ y, F.bs[k]? = some y := ⟨_, List.getElem?_eq_getElem (by rw [← HN.out]; exact kz)⟩
      have SB := SM.out.2.2 k y hy
      obtain ⟨ev, q1, q2, A2, cp2, b2, o2, rfl, hc2, h5, h6⟩ := H4.out k y hy
      have q1 := keep_of_below (bel_trans BX.out HB.out) _ _ q1
      have q2 := keep_of_below (bel_trans BX.out HB.out) _ _ q2
      have H5 := hidE h5
      have H6 := hidE fun (i : Nat) (e : Ent) (he : y.es[i]? = some e) => (show X.cell? ⟨b2, o2 + i * 3, none⟩ = some (.string e.k) ∧ X.cell? ⟨b2, o2 + i * 3 + 1, none⟩ = some (.int .i64 e.v) from ⟨keep_of_below BX.out _ _ (h6 i e he).1, keep_of_below BX.out _ _ (h6 i e he).2.1⟩)
      have ENT : Hid (EntsE w (.slice A2 y.es.length cp2) y.es) := ⟨A2, cp2, b2, o2, rfl, hc2, h5, h6⟩
      have HY := hidE hy
      obtain ⟨m, hm⟩ : ∃ m, m = y.es.length := ⟨_, rfl⟩
      have HM := hidE hm
      have em := SB.1
      rw [← hm] at q1 hc2 em ENT
      obtain ⟨ag, hag⟩ : ∃ ag, ag = y.ag := ⟨_, rfl⟩
      have HAG := hidE hag
      rw [← hag] at q2
      have x1a : (wr.alloc (.cells #[.slice A2 m cp2, .int .i64 ag] 74)).cell? ⟨w.heap.size, 1, none⟩ = some (.int .i64 F.room) := X1.out _ (bel_trans HB.out (bel_alloc _ _))
      have IN : Hid (RtIn X (wr.alloc (.cells #[.slice A2 m cp2, .int .i64 ag] 74)) wr.heap.size A2 m cp2 ag) := ⟨bel_trans HB.out (bel_alloc _ _), Blk.new _ _ _⟩
      have NB : Hid (¬ RightB F.room y → ¬ RightE F) := fun h z => h (z.2.2.2.2.2.2.2.2.2 k y HY.out)
      clear h5 h6 hy hm hag SB
      by_cases l1 : (m : Int) > F.room
      · have NS : Hid (¬ RightE F) := NB.out fun h => by have := h.1; rw [← HM.out] at this; omega
        go_wp2_with fail
        go_ret
        exact ⟨false, rfl, ⟨fun h => (by cases h), fun h => absurd h NS.out⟩, bel_trans BX.out IN.out.since⟩
      by_cases l2 : ag < 0
      · have NS : Hid (¬ RightE F) := NB.out fun h => by have := h.2.1; rw [← HAG.out] at this; omega
        go_wp2_with fail
        go_ret
        exact ⟨false, rfl, ⟨fun h => (by cases h), fun h => absurd h NS.out⟩, bel_trans BX.out IN.out.since⟩
      by_cases l3 : ag > 1099511627776
      · have NS : Hid (¬ RightE F) := NB.out fun h => by have := h.2.2.1; rw [← HAG.out] at this; omega
        go_wp2_with fail
        go_ret
        exact ⟨false, rfl, ⟨fun h => (by cases h), fun h => absurd h NS.out⟩, bel_trans BX.out IN.out.since⟩
      go_wp2_with fail
      clear x3 q1 q2 x1a
      generalize wr.heap.size = gb at IN ⊢
      go_loopg [5] m (fun gj i wi => ∃ j : Nat, (gj = m - j ∧ j ≤ m ∧ RtIn X wi gb A2 m cp2 ag ∧ ∀ (i : Nat) (e : Ent), i < j → y.es[i]? = some e → RightI y i e) ∧ i = .int .i64 (j : Int))
      case atStart => exact ⟨0, ⟨rfl, by omega, IN.out, fun i e hi => by omega⟩, rfl⟩
      case round =>
        clear IN HB
        obtain ⟨j, ⟨hgj, hj, hB, hT⟩, rfl⟩ := hrel
        have HB := hidE hB
        have HJ := hidE hgj
        have HT := hidE hT
        have y0 : wr.cell? ⟨gb, 0, none⟩ = some (.slice A2 m cp2) := HB.out.xb.cell 0
        clear hB hgj hT
        by_cases jz : j < m
        · have bj : (j : Int) < (m : Int) := by omega
          have bj0 : (0 : Int) ≤ (j : Int) := by omega
          obtain rfl := H5.out (by rw [← HM.out]; omega)
          obtain ⟨e, he⟩ : ∃ e, y.es[j]? = some e := ⟨_, List.getElem?_eq_getElem (by rw [← HM.out]; exact jz)⟩
          obtain ⟨p1, p2⟩ := H6.out j e he
          have HEE := hidE he
          have NE : Hid (¬ RightI y j e → ¬ RightE F) := fun h => NB.out fun z => h (z.2.2.2 j e HEE.out)
          obtain ⟨t, d, f⟩ := e
          simp only at p1 p2
          have P1 := hidE p1
          have P2 := hidE p2
          have AC : Hid (∀ u, Below w.heap.size w u → Calls Try.prog 38 #[.agg #[.slice (some ⟨b2, o2, none⟩) m cp2, .int .i64 ag], .string t] u fun e w' => e = .returned (.int .i64 (atI y.es t)) ∧ Below u.heap.size u w') := fun u b => eat_any u _ ag y.es t (ENT.out.keep (keep_of_below b)) (by rw [← HM.out]; omega)
          clear p1 p2 he
          go_wp2_with fail
          clear y0
          by_cases v1 : d < 1
          · have NS : Hid (¬ RightE F) := NE.out fun h => by have := h.1; simp only at this; omega
            have e1 : decide (d < 1) = true := decide_eq_true v1
            clear v1
            refine letterQ ?_
            intro QQ hQQ
            have Z0 : Hid (RtIn X wr.drew gb (some ⟨b2, o2, none⟩) m cp2 ag) := ⟨HB.out.since.drew, HB.out.xb⟩
            refine wp_region_held_drew (S := fun w2 => RtIn X w2 gb (some ⟨b2, o2, none⟩) m cp2 ag) (by kernel_rfl) Z0.out (fun hHeld => ?_)
            clear hHeld
            generalize wr.drew = q0 at Z0 ⊢
            refine wpAnyH_take (i := 0) (v := ?_) rfl (by kernel_rfl) (by kernel_rfl) (by kernel_rfl) (fun _ _ _ h => h) (Or.inl ⟨by rfl, ?_⟩) Z0.out ?_
            rotate_left
            · intro wq hSw; go_simp; first | done | with_reducible rfl
            simp only [List.getElem_toArray, List.getElem_cons_zero, Act.put, List.setIfInBounds_toArray, List.set_cons_zero, List.set_cons_succ]
            refine wpAnyH_take (i := 1) (v := ?_) rfl (by kernel_rfl) (by kernel_rfl) (by kernel_rfl) (fun _ _ _ h => h) (Or.inl ⟨by rfl, ?_⟩) Z0.out ?_
            rotate_left
            · intro wq hSw; have cl0 := hSw.xb.cell 0; go_simp; first | done | with_reducible rfl
            simp only [List.getElem_toArray, List.getElem_cons_zero, List.getElem_cons_succ, Act.put, List.setIfInBounds_toArray, List.set_cons_zero, List.set_cons_succ]
            refine wpAnyH_take (i := 2) (v := ?_) rfl (by kernel_rfl) (by kernel_rfl) (by kernel_rfl) (fun _ _ _ h => h) (Or.inl ⟨by rfl, ?_⟩) Z0.out ?_
            rotate_left
            · intro wq hSw; go_simp; first | done | with_reducible rfl
            simp only [List.getElem_toArray, List.getElem_cons_zero, List.getElem_cons_succ, Act.put, List.setIfInBounds_toArray, List.set_cons_zero, List.set_cons_succ]
            refine wpAnyH_take (i := 3) (v := ?_) rfl (by kernel_rfl) (by kernel_rfl) (by kernel_rfl) (fun _ _ _ h => h) (Or.inl ⟨by rfl, ?_⟩) Z0.out ?_
            rotate_left
            · intro wq hSw; go_simp; first | done | with_reducible rfl
            simp only [List.getElem_toArray, List.getElem_cons_zero, List.getElem_cons_succ, Act.put, List.setIfInBounds_toArray, List.set_cons_zero, List.set_cons_succ]
            refine wpAnyH_take (i := 4) (v := ?_) rfl (by kernel_rfl) (by kernel_rfl) (by kernel_rfl) (fun _ _ _ h => h) (Or.inl ⟨by rfl, ?_⟩) Z0.out ?_
            rotate_left
            · intro wq hSw; go_simp; first | done | with_reducible rfl
            simp only [List.getElem_toArray, List.getElem_cons_zero, List.getElem_cons_succ, Act.put, List.setIfInBounds_toArray, List.set_cons_zero, List.set_cons_succ]
            refine wpAnyH_take (i := 5) (v := ?_) rfl (by kernel_rfl) (by kernel_rfl) (by kernel_rfl) (fun _ _ _ h => h) (Or.inl ⟨by rfl, ?_⟩) Z0.out ?_
            rotate_left
            · intro wq hSw; have cl0 := keep_of_below hSw.since _ _ P2.out; go_simp; first | done | with_reducible rfl
            simp only [List.getElem_toArray, List.getElem_cons_zero, List.getElem_cons_succ, Act.put, List.setIfInBounds_toArray, List.set_cons_zero, List.set_cons_succ]
            refine wpAnyH_take (i := 6) (v := ?_) rfl (by kernel_rfl) (by kernel_rfl) (by kernel_rfl) (fun _ _ _ h => h) (Or.inl ⟨by rfl, ?_⟩) Z0.out ?_
            rotate_left
            · intro wq hSw; go_simp; first | done | with_reducible rfl
            simp only [List.getElem_toArray, List.getElem_cons_zero, List.getElem_cons_succ, Act.put, List.setIfInBounds_toArray, List.set_cons_zero, List.set_cons_succ]
            refine wpAnyH_take (i := 7) (v := ?_) rfl (by kernel_rfl) (by kernel_rfl) (by kernel_rfl) (fun _ _ _ h => h) (Or.inl ⟨by rfl, ?_⟩) Z0.out ?_
            rotate_left
            · intro wq hSw; go_simp; first | done | with_reducible rfl
            simp only [List.getElem_toArray, List.getElem_cons_zero, List.getElem_cons_succ, Act.put, List.setIfInBounds_toArray, List.set_cons_zero, List.set_cons_succ]
            refine wpAnyH_take (i := 8) (v := undef) rfl (by kernel_rfl) (by kernel_rfl) (by kernel_rfl) (fun _ _ _ h => h) (Or.inr ⟨by rfl, rfl⟩) Z0.out ?_
            simp only [List.getElem_toArray, List.getElem_cons_zero, List.getElem_cons_succ, Act.put, List.setIfInBounds_toArray, List.set_cons_zero, List.set_cons_succ]
            refine wpAnyH_take (i := 9) (v := undef) rfl (by kernel_rfl) (by kernel_rfl) (by kernel_rfl) (fun _ _ _ h => h) (Or.inr ⟨by rfl, rfl⟩) Z0.out ?_
            simp only [List.getElem_toArray, List.getElem_cons_zero, List.getElem_cons_succ, Act.put, List.setIfInBounds_toArray, List.set_cons_zero, List.set_cons_succ]
            refine wpAnyH_take (i := 10) (v := undef) rfl (by kernel_rfl) (by kernel_rfl) (by kernel_rfl) (fun _ _ _ h => h) (Or.inr ⟨by rfl, rfl⟩) Z0.out ?_
            simp only [List.getElem_toArray, List.getElem_cons_zero, List.getElem_cons_succ, Act.put, List.setIfInBounds_toArray, List.set_cons_zero, List.set_cons_succ]
            refine wpAnyH_take (i := 11) (v := undef) rfl (by kernel_rfl) (by kernel_rfl) (by kernel_rfl) (fun _ _ _ h => h) (Or.inr ⟨by rfl, rfl⟩) Z0.out ?_
            simp only [List.getElem_toArray, List.getElem_cons_zero, List.getElem_cons_succ, Act.put, List.setIfInBounds_toArray, List.set_cons_zero, List.set_cons_succ]
            refine wpAnyH_take (i := 12) (v := undef) rfl (by kernel_rfl) (by kernel_rfl) (by kernel_rfl) (fun _ _ _ h => h) (Or.inr ⟨by rfl, rfl⟩) Z0.out ?_
            simp only [List.getElem_toArray, List.getElem_cons_zero, List.getElem_cons_succ, Act.put, List.setIfInBounds_toArray, List.set_cons_zero, List.set_cons_succ]
            refine wpAnyH_take (i := 13) (v := undef) rfl (by kernel_rfl) (by kernel_rfl) (by kernel_rfl) (fun _ _ _ h => h) (Or.inr ⟨by rfl, rfl⟩) Z0.out ?_
            simp only [List.getElem_toArray, List.getElem_cons_zero, List.getElem_cons_succ, Act.put, List.setIfInBounds_toArray, List.set_cons_zero, List.set_cons_succ]
            refine wpAnyH_take (i := 14) (v := undef) rfl (by kernel_rfl) (by kernel_rfl) (by kernel_rfl) (fun _ _ _ h => h) (Or.inr ⟨by rfl, rfl⟩) Z0.out ?_
            simp only [List.getElem_toArray, List.getElem_cons_zero, List.getElem_cons_succ, Act.put, List.setIfInBounds_toArray, List.set_cons_zero, List.set_cons_succ]
            refine wpAnyH_take (i := 15) (v := ?_) rfl (by kernel_rfl) (by kernel_rfl) (by kernel_rfl) (fun _ _ _ h => h) (Or.inl ⟨by rfl, ?_⟩) Z0.out ?_
            rotate_left
            · intro wq hSw; go_simp; first | done | with_reducible rfl
            simp only [List.getElem_toArray, List.getElem_cons_zero, List.getElem_cons_succ, Act.put, List.setIfInBounds_toArray, List.set_cons_zero, List.set_cons_succ]
            refine wpAnyH_take (i := 16) (v := ?_) rfl (by kernel_rfl) (by kernel_rfl) (by kernel_rfl) (fun _ _ _ h => h) (Or.inl ⟨by rfl, ?_⟩) Z0.out ?_
            rotate_left
            · intro wq hSw; go_simp; first | done | with_reducible rfl
            simp only [List.getElem_toArray, List.getElem_cons_zero, List.getElem_cons_succ, Act.put, List.setIfInBounds_toArray, List.set_cons_zero, List.set_cons_succ]
            refine wpAnyH_take (i := 17) (v := undef) rfl (by kernel_rfl) (by kernel_rfl) (by kernel_rfl) (fun _ _ _ h => h) (Or.inr ⟨by rfl, rfl⟩) Z0.out ?_
            simp only [List.getElem_toArray, List.getElem_cons_zero, List.getElem_cons_succ, Act.put, List.setIfInBounds_toArray, List.set_cons_zero, List.set_cons_succ]
            refine wpAnyH_take (i := 18) (v := undef) rfl (by kernel_rfl) (by kernel_rfl) (by kernel_rfl) (fun _ _ _ h => h) (Or.inr ⟨by rfl, rfl⟩) Z0.out ?_
            simp only [List.getElem_toArray, List.getElem_cons_zero, List.getElem_cons_succ, Act.put, List.setIfInBounds_toArray, List.set_cons_zero, List.set_cons_succ]
            refine wpAnyH_take (i := 19) (v := undef) rfl (by kernel_rfl) (by kernel_rfl) (by kernel_rfl) (fun _ _ _ h => h) (Or.inr ⟨by rfl, rfl⟩) Z0.out ?_
            simp only [List.getElem_toArray, List.getElem_cons_zero, List.getElem_cons_succ, Act.put, List.setIfInBounds_toArray, List.set_cons_zero, List.set_cons_succ]
            refine wpAnyH_take (i := 20) (v := undef) rfl (by kernel_rfl) (by kernel_rfl) (by kernel_rfl) (fun _ _ _ h => h) (Or.inr ⟨by rfl, rfl⟩) Z0.out ?_
            simp only [List.getElem_toArray, List.getElem_cons_zero, List.getElem_cons_succ, Act.put, List.setIfInBounds_toArray, List.set_cons_zero, List.set_cons_succ]
            refine wpAnyH_take (i := 21) (v := undef) rfl (by kernel_rfl) (by kernel_rfl) (by kernel_rfl) (fun _ _ _ h => h) (Or.inr ⟨by rfl, rfl⟩) Z0.out ?_
            simp only [List.getElem_toArray, List.getElem_cons_zero, List.getElem_cons_succ, Act.put, List.setIfInBounds_toArray, List.set_cons_zero, List.set_cons_succ]
            refine wpAnyH_take (i := 22) (v := undef) rfl (by kernel_rfl) (by kernel_rfl) (by kernel_rfl) (fun _ _ _ h => h) (Or.inr ⟨by rfl, rfl⟩) Z0.out ?_
            simp only [List.getElem_toArray, List.getElem_cons_zero, List.getElem_cons_succ, Act.put, List.setIfInBounds_toArray, List.set_cons_zero, List.set_cons_succ]
            refine wpAnyH_take (i := 23) (v := undef) rfl (by kernel_rfl) (by kernel_rfl) (by kernel_rfl) (fun _ _ _ h => h) (Or.inr ⟨by rfl, rfl⟩) Z0.out ?_
            simp only [List.getElem_toArray, List.getElem_cons_zero, List.getElem_cons_succ, Act.put, List.setIfInBounds_toArray, List.set_cons_zero, List.set_cons_succ]
            refine wpAnyH_take (i := 24) (v := undef) rfl (by kernel_rfl) (by kernel_rfl) (by kernel_rfl) (fun _ _ _ h => h) (Or.inr ⟨by rfl, rfl⟩) Z0.out ?_
            simp only [List.getElem_toArray, List.getElem_cons_zero, List.getElem_cons_succ, Act.put, List.setIfInBounds_toArray, List.set_cons_zero, List.set_cons_succ]
            refine wpAnyH_take (i := 25) (v := undef) rfl (by kernel_rfl) (by kernel_rfl) (by kernel_rfl) (fun _ _ _ h => h) (Or.inr ⟨by rfl, rfl⟩) Z0.out ?_
            simp only [List.getElem_toArray, List.getElem_cons_zero, List.getElem_cons_succ, Act.put, List.setIfInBounds_toArray, List.set_cons_zero, List.set_cons_succ]
            refine wpAnyH_take (i := 26) (v := undef) rfl (by kernel_rfl) (by kernel_rfl) (by kernel_rfl) (fun _ _ _ h => h) (Or.inr ⟨by rfl, rfl⟩) Z0.out ?_
            simp only [List.getElem_toArray, List.getElem_cons_zero, List.getElem_cons_succ, Act.put, List.setIfInBounds_toArray, List.set_cons_zero, List.set_cons_succ]
            refine wpAnyH_take (i := 27) (v := ?_) rfl (by kernel_rfl) (by kernel_rfl) (by kernel_rfl) (fun _ _ _ h => h) (Or.inl ⟨by rfl, ?_⟩) Z0.out ?_
            rotate_left
            · intro wq hSw; go_simp; first | done | with_reducible rfl
            simp only [List.getElem_toArray, List.getElem_cons_zero, List.getElem_cons_succ, Act.put, List.setIfInBounds_toArray, List.set_cons_zero, List.set_cons_succ]
            refine wpAnyH_done (by kernel_rfl) ?_ _
            refine NoPanic.normal ?_
            refine hQQ.out _ _ ?_
            clear hQQ
            go_wp2_with fail
            go_ret
            exact ⟨false, rfl, ⟨fun h => (by cases h), fun h => absurd h NS.out⟩, bel_trans BX.out Z0.out.since⟩
          by_cases v2 : d > 1099511627776
          · have NS : Hid (¬ RightE F) := NE.out fun h => by have := h.2.1; simp only at this; omega
            refine letterQ ?_
            intro QQ hQQ
            have Z0 : Hid (RtIn X wr.drew gb (some ⟨b2, o2, none⟩) m cp2 ag) := ⟨HB.out.since.drew, HB.out.xb⟩
            refine wp_region_held_drew (S := fun w2 => RtIn X w2 gb (some ⟨b2, o2, none⟩) m cp2 ag) (by kernel_rfl) Z0.out (fun hHeld => ?_)
            clear hHeld
            generalize wr.drew = q0 at Z0 ⊢
            refine wpAnyH_take (i := 0) (v := ?_) rfl (by kernel_rfl) (by kernel_rfl) (by kernel_rfl) (fun _ _ _ h => h) (Or.inl ⟨by rfl, ?_⟩) Z0.out ?_
            rotate_left
            · intro wq hSw; go_simp; first | done | with_reducible rfl
            simp only [List.getElem_toArray, List.getElem_cons_zero, Act.put, List.setIfInBounds_toArray, List.set_cons_zero, List.set_cons_succ]
            refine wpAnyH_take (i := 1) (v := ?_) rfl (by kernel_rfl) (by kernel_rfl) (by kernel_rfl) (fun _ _ _ h => h) (Or.inl ⟨by rfl, ?_⟩) Z0.out ?_
            rotate_left
            · intro wq hSw; have cl0 := hSw.xb.cell 0; go_simp; first | done | with_reducible rfl
            simp only [List.getElem_toArray, List.getElem_cons_zero, List.getElem_cons_succ, Act.put, List.setIfInBounds_toArray, List.set_cons_zero, List.set_cons_succ]
            refine wpAnyH_take (i := 2) (v := ?_) rfl (by kernel_rfl) (by kernel_rfl) (by kernel_rfl) (fun _ _ _ h => h) (Or.inl ⟨by rfl, ?_⟩) Z0.out ?_
            rotate_left
            · intro wq hSw; go_simp; first | done | with_reducible rfl
            simp only [List.getElem_toArray, List.getElem_cons_zero, List.getElem_cons_succ, Act.put, List.setIfInBounds_toArray, List.set_cons_zero, List.set_cons_succ]
            refine wpAnyH_take (i := 3) (v := ?_) rfl (by kernel_rfl) (by kernel_rfl) (by kernel_rfl) (fun _ _ _ h => h) (Or.inl ⟨by rfl, ?_⟩) Z0.out ?_
            rotate_left
            · intro wq hSw; go_simp; first | done | with_reducible rfl
            simp only [List.getElem_toArray, List.getElem_cons_zero, List.getElem_cons_succ, Act.put, List.setIfInBounds_toArray, List.set_cons_zero, List.set_cons_succ]
            refine wpAnyH_take (i := 4) (v := ?_) rfl (by kernel_rfl) (by kernel_rfl) (by kernel_rfl) (fun _ _ _ h => h) (Or.inl ⟨by rfl, ?_⟩) Z0.out ?_
            rotate_left
            · intro wq hSw; go_simp; first | done | with_reducible rfl
            simp only [List.getElem_toArray, List.getElem_cons_zero, List.getElem_cons_succ, Act.put, List.setIfInBounds_toArray, List.set_cons_zero, List.set_cons_succ]
            refine wpAnyH_take (i := 5) (v := ?_) rfl (by kernel_rfl) (by kernel_rfl) (by kernel_rfl) (fun _ _ _ h => h) (Or.inl ⟨by rfl, ?_⟩) Z0.out ?_
            rotate_left
            · intro wq hSw; have cl0 := keep_of_below hSw.since _ _ P2.out; go_simp; first | done | with_reducible rfl
            simp only [List.getElem_toArray, List.getElem_cons_zero, List.getElem_cons_succ, Act.put, List.setIfInBounds_toArray, List.set_cons_zero, List.set_cons_succ]
            refine wpAnyH_take (i := 6) (v := ?_) rfl (by kernel_rfl) (by kernel_rfl) (by kernel_rfl) (fun _ _ _ h => h) (Or.inl ⟨by rfl, ?_⟩) Z0.out ?_
            rotate_left
            · intro wq hSw; go_simp; first | done | with_reducible rfl
            simp only [List.getElem_toArray, List.getElem_cons_zero, List.getElem_cons_succ, Act.put, List.setIfInBounds_toArray, List.set_cons_zero, List.set_cons_succ]
            refine wpAnyH_take (i := 7) (v := ?_) rfl (by kernel_rfl) (by kernel_rfl) (by kernel_rfl) (fun _ _ _ h => h) (Or.inl ⟨by rfl, ?_⟩) Z0.out ?_
            rotate_left
            · intro wq hSw; go_simp; first | done | with_reducible rfl
            simp only [List.getElem_toArray, List.getElem_cons_zero, List.getElem_cons_succ, Act.put, List.setIfInBounds_toArray, List.set_cons_zero, List.set_cons_succ]
            refine wpAnyH_take (i := 8) (v := ?_) rfl (by kernel_rfl) (by kernel_rfl) (by kernel_rfl) (fun _ _ _ h => h) (Or.inl ⟨by rfl, ?_⟩) Z0.out ?_
            rotate_left
            · intro wq hSw; go_simp; first | done | with_reducible rfl
            simp only [List.getElem_toArray, List.getElem_cons_zero, List.getElem_cons_succ, Act.put, List.setIfInBounds_toArray, List.set_cons_zero, List.set_cons_succ]
            refine wpAnyH_take (i := 9) (v := ?_) rfl (by kernel_rfl) (by kernel_rfl) (by kernel_rfl) (fun _ _ _ h => h) (Or.inl ⟨by rfl, ?_⟩) Z0.out ?_
            rotate_left
            · intro wq hSw; have cl0 := hSw.xb.cell 0; go_simp; first | done | with_reducible rfl
            simp only [List.getElem_toArray, List.getElem_cons_zero, List.getElem_cons_succ, Act.put, List.setIfInBounds_toArray, List.set_cons_zero, List.set_cons_succ]
            refine wpAnyH_take (i := 10) (v := ?_) rfl (by kernel_rfl) (by kernel_rfl) (by kernel_rfl) (fun _ _ _ h => h) (Or.inl ⟨by rfl, ?_⟩) Z0.out ?_
            rotate_left
            · intro wq hSw; go_simp; first | done | with_reducible rfl
            simp only [List.getElem_toArray, List.getElem_cons_zero, List.getElem_cons_succ, Act.put, List.setIfInBounds_toArray, List.set_cons_zero, List.set_cons_succ]
            refine wpAnyH_take (i := 11) (v := ?_) rfl (by kernel_rfl) (by kernel_rfl) (by kernel_rfl) (fun _ _ _ h => h) (Or.inl ⟨by rfl, ?_⟩) Z0.out ?_
            rotate_left
            · intro wq hSw; go_simp; first | done | with_reducible rfl
            simp only [List.getElem_toArray, List.getElem_cons_zero, List.getElem_cons_succ, Act.put, List.setIfInBounds_toArray, List.set_cons_zero, List.set_cons_succ]
            refine wpAnyH_take (i := 12) (v := ?_) rfl (by kernel_rfl) (by kernel_rfl) (by kernel_rfl) (fun _ _ _ h => h) (Or.inl ⟨by rfl, ?_⟩) Z0.out ?_
            rotate_left
            · intro wq hSw; go_simp; first | done | with_reducible rfl
            simp only [List.getElem_toArray, List.getElem_cons_zero, List.getElem_cons_succ, Act.put, List.setIfInBounds_toArray, List.set_cons_zero, List.set_cons_succ]
            refine wpAnyH_take (i := 13) (v := ?_) rfl (by kernel_rfl) (by kernel_rfl) (by kernel_rfl) (fun _ _ _ h => h) (Or.inl ⟨by rfl, ?_⟩) Z0.out ?_
            rotate_left
            · intro wq hSw; have cl0 := keep_of_below hSw.since _ _ P2.out; go_simp; first | done | with_reducible rfl
            simp only [List.getElem_toArray, List.getElem_cons_zero, List.getElem_cons_succ, Act.put, List.setIfInBounds_toArray, List.set_cons_zero, List.set_cons_succ]
            refine wpAnyH_take (i := 14) (v := ?_) rfl (by kernel_rfl) (by kernel_rfl) (by kernel_rfl) (fun _ _ _ h => h) (Or.inl ⟨by rfl, ?_⟩) Z0.out ?_
            rotate_left
            · intro wq hSw; go_simp; first | done | with_reducible rfl
            simp only [List.getElem_toArray, List.getElem_cons_zero, List.getElem_cons_succ, Act.put, List.setIfInBounds_toArray, List.set_cons_zero, List.set_cons_succ]
            refine wpAnyH_take (i := 15) (v := ?_) rfl (by kernel_rfl) (by kernel_rfl) (by kernel_rfl) (fun _ _ _ h => h) (Or.inl ⟨by rfl, ?_⟩) Z0.out ?_
            rotate_left
            · intro wq hSw; go_simp; first | done | with_reducible rfl
            simp only [List.getElem_toArray, List.getElem_cons_zero, List.getElem_cons_succ, Act.put, List.setIfInBounds_toArray, List.set_cons_zero, List.set_cons_succ]
            refine wpAnyH_take (i := 16) (v := ?_) rfl (by kernel_rfl) (by kernel_rfl) (by kernel_rfl) (fun _ _ _ h => h) (Or.inl ⟨by rfl, ?_⟩) Z0.out ?_
            rotate_left
            · intro wq hSw; go_simp; first | done | with_reducible rfl
            simp only [List.getElem_toArray, List.getElem_cons_zero, List.getElem_cons_succ, Act.put, List.setIfInBounds_toArray, List.set_cons_zero, List.set_cons_succ]
            refine wpAnyH_take (i := 17) (v := undef) rfl (by kernel_rfl) (by kernel_rfl) (by kernel_rfl) (fun _ _ _ h => h) (Or.inr ⟨by rfl, rfl⟩) Z0.out ?_
            simp only [List.getElem_toArray, List.getElem_cons_zero, List.getElem_cons_succ, Act.put, List.setIfInBounds_toArray, List.set_cons_zero, List.set_cons_succ]
            refine wpAnyH_take (i := 18) (v := undef) rfl (by kernel_rfl) (by kernel_rfl) (by kernel_rfl) (fun _ _ _ h => h) (Or.inr ⟨by rfl, rfl⟩) Z0.out ?_
            simp only [List.getElem_toArray, List.getElem_cons_zero, List.getElem_cons_succ, Act.put, List.setIfInBounds_toArray, List.set_cons_zero, List.set_cons_succ]
            refine wpAnyH_take (i := 19) (v := undef) rfl (by kernel_rfl) (by kernel_rfl) (by kernel_rfl) (fun _ _ _ h => h) (Or.inr ⟨by rfl, rfl⟩) Z0.out ?_
            simp only [List.getElem_toArray, List.getElem_cons_zero, List.getElem_cons_succ, Act.put, List.setIfInBounds_toArray, List.set_cons_zero, List.set_cons_succ]
            refine wpAnyH_take (i := 20) (v := undef) rfl (by kernel_rfl) (by kernel_rfl) (by kernel_rfl) (fun _ _ _ h => h) (Or.inr ⟨by rfl, rfl⟩) Z0.out ?_
            simp only [List.getElem_toArray, List.getElem_cons_zero, List.getElem_cons_succ, Act.put, List.setIfInBounds_toArray, List.set_cons_zero, List.set_cons_succ]
            refine wpAnyH_take (i := 21) (v := undef) rfl (by kernel_rfl) (by kernel_rfl) (by kernel_rfl) (fun _ _ _ h => h) (Or.inr ⟨by rfl, rfl⟩) Z0.out ?_
            simp only [List.getElem_toArray, List.getElem_cons_zero, List.getElem_cons_succ, Act.put, List.setIfInBounds_toArray, List.set_cons_zero, List.set_cons_succ]
            refine wpAnyH_take (i := 22) (v := undef) rfl (by kernel_rfl) (by kernel_rfl) (by kernel_rfl) (fun _ _ _ h => h) (Or.inr ⟨by rfl, rfl⟩) Z0.out ?_
            simp only [List.getElem_toArray, List.getElem_cons_zero, List.getElem_cons_succ, Act.put, List.setIfInBounds_toArray, List.set_cons_zero, List.set_cons_succ]
            refine wpAnyH_take (i := 23) (v := undef) rfl (by kernel_rfl) (by kernel_rfl) (by kernel_rfl) (fun _ _ _ h => h) (Or.inr ⟨by rfl, rfl⟩) Z0.out ?_
            simp only [List.getElem_toArray, List.getElem_cons_zero, List.getElem_cons_succ, Act.put, List.setIfInBounds_toArray, List.set_cons_zero, List.set_cons_succ]
            refine wpAnyH_take (i := 24) (v := undef) rfl (by kernel_rfl) (by kernel_rfl) (by kernel_rfl) (fun _ _ _ h => h) (Or.inr ⟨by rfl, rfl⟩) Z0.out ?_
            simp only [List.getElem_toArray, List.getElem_cons_zero, List.getElem_cons_succ, Act.put, List.setIfInBounds_toArray, List.set_cons_zero, List.set_cons_succ]
            refine wpAnyH_take (i := 25) (v := undef) rfl (by kernel_rfl) (by kernel_rfl) (by kernel_rfl) (fun _ _ _ h => h) (Or.inr ⟨by rfl, rfl⟩) Z0.out ?_
            simp only [List.getElem_toArray, List.getElem_cons_zero, List.getElem_cons_succ, Act.put, List.setIfInBounds_toArray, List.set_cons_zero, List.set_cons_succ]
            refine wpAnyH_take (i := 26) (v := undef) rfl (by kernel_rfl) (by kernel_rfl) (by kernel_rfl) (fun _ _ _ h => h) (Or.inr ⟨by rfl, rfl⟩) Z0.out ?_
            simp only [List.getElem_toArray, List.getElem_cons_zero, List.getElem_cons_succ, Act.put, List.setIfInBounds_toArray, List.set_cons_zero, List.set_cons_succ]
            refine wpAnyH_take (i := 27) (v := ?_) rfl (by kernel_rfl) (by kernel_rfl) (by kernel_rfl) (fun _ _ _ h => h) (Or.inl ⟨by rfl, ?_⟩) Z0.out ?_
            rotate_left
            · intro wq hSw; go_simp; first | done | with_reducible rfl
            simp only [List.getElem_toArray, List.getElem_cons_zero, List.getElem_cons_succ, Act.put, List.setIfInBounds_toArray, List.set_cons_zero, List.set_cons_succ]
            refine wpAnyH_done (by kernel_rfl) ?_ _
            refine NoPanic.normal ?_
            refine hQQ.out _ _ ?_
            clear hQQ
            go_wp2_with fail
            go_ret
            exact ⟨false, rfl, ⟨fun h => (by cases h), fun h => absurd h NS.out⟩, bel_trans BX.out Z0.out.since⟩
          by_cases at0 : atI y.es t = (j : Int)
          · have q : (atI y.es t != (j : Int)) = false := by simp [at0]
            have TR : Hid (RightI y j ⟨t, d, f⟩) := by
              refine ⟨by show 1 ≤ d; omega, by show d ≤ _; omega, ?_⟩
              show atE y.es t = some j
              unfold atI at at0
              split at at0
              · rename_i i hi
                rw [hi]
                congr 1
                omega
              · omega
            clear at0
            refine letterQ ?_
            intro QQ hQQ
            have Z0 : Hid (RtIn X wr.drew gb (some ⟨b2, o2, none⟩) m cp2 ag) := ⟨HB.out.since.drew, HB.out.xb⟩
            refine wp_region_held_drew (S := fun w2 => RtIn X w2 gb (some ⟨b2, o2, none⟩) m cp2 ag) (by kernel_rfl) Z0.out (fun hHeld => ?_)
            clear hHeld
            generalize wr.drew = q0 at Z0 ⊢
            refine wpAnyH_take (i := 0) (v := ?_) rfl (by kernel_rfl) (by kernel_rfl) (by kernel_rfl) (fun _ _ _ h => h) (Or.inl ⟨by rfl, ?_⟩) Z0.out ?_
            rotate_left
            · intro wq hSw; go_simp; first | done | with_reducible rfl
            simp only [List.getElem_toArray, List.getElem_cons_zero, Act.put, List.setIfInBounds_toArray, List.set_cons_zero, List.set_cons_succ]
            refine wpAnyH_take (i := 1) (v := ?_) rfl (by kernel_rfl) (by kernel_rfl) (by kernel_rfl) (fun _ _ _ h => h) (Or.inl ⟨by rfl, ?_⟩) Z0.out ?_
            rotate_left
            · intro wq hSw; have cl0 := hSw.xb.cell 0; go_simp; first | done | with_reducible rfl
            simp only [List.getElem_toArray, List.getElem_cons_zero, List.getElem_cons_succ, Act.put, List.setIfInBounds_toArray, List.set_cons_zero, List.set_cons_succ]
            refine wpAnyH_take (i := 2) (v := ?_) rfl (by kernel_rfl) (by kernel_rfl) (by kernel_rfl) (fun _ _ _ h => h) (Or.inl ⟨by rfl, ?_⟩) Z0.out ?_
            rotate_left
            · intro wq hSw; go_simp; first | done | with_reducible rfl
            simp only [List.getElem_toArray, List.getElem_cons_zero, List.getElem_cons_succ, Act.put, List.setIfInBounds_toArray, List.set_cons_zero, List.set_cons_succ]
            refine wpAnyH_take (i := 3) (v := ?_) rfl (by kernel_rfl) (by kernel_rfl) (by kernel_rfl) (fun _ _ _ h => h) (Or.inl ⟨by rfl, ?_⟩) Z0.out ?_
            rotate_left
            · intro wq hSw; go_simp; first | done | with_reducible rfl
            simp only [List.getElem_toArray, List.getElem_cons_zero, List.getElem_cons_succ, Act.put, List.setIfInBounds_toArray, List.set_cons_zero, List.set_cons_succ]
            refine wpAnyH_take (i := 4) (v := ?_) rfl (by kernel_rfl) (by kernel_rfl) (by kernel_rfl) (fun _ _ _ h => h) (Or.inl ⟨by rfl, ?_⟩) Z0.out ?_
            rotate_left
            · intro wq hSw; go_simp; first | done | with_reducible rfl
            simp only [List.getElem_toArray, List.getElem_cons_zero, List.getElem_cons_succ, Act.put, List.setIfInBounds_toArray, List.set_cons_zero, List.set_cons_succ]
            refine wpAnyH_take (i := 5) (v := ?_) rfl (by kernel_rfl) (by kernel_rfl) (by kernel_rfl) (fun _ _ _ h => h) (Or.inl ⟨by rfl, ?_⟩) Z0.out ?_
            rotate_left
            · intro wq hSw; have cl0 := keep_of_below hSw.since _ _ P2.out; go_simp; first | done | with_reducible rfl
            simp only [List.getElem_toArray, List.getElem_cons_zero, List.getElem_cons_succ, Act.put, List.setIfInBounds_toArray, List.set_cons_zero, List.set_cons_succ]
            refine wpAnyH_take (i := 6) (v := ?_) rfl (by kernel_rfl) (by kernel_rfl) (by kernel_rfl) (fun _ _ _ h => h) (Or.inl ⟨by rfl, ?_⟩) Z0.out ?_
            rotate_left
            · intro wq hSw; go_simp; first | done | with_reducible rfl
            simp only [List.getElem_toArray, List.getElem_cons_zero, List.getElem_cons_succ, Act.put, List.setIfInBounds_toArray, List.set_cons_zero, List.set_cons_succ]
            refine wpAnyH_take (i := 7) (v := ?_) rfl (by kernel_rfl) (by kernel_rfl) (by kernel_rfl) (fun _ _ _ h => h) (Or.inl ⟨by rfl, ?_⟩) Z0.out ?_
            rotate_left
            · intro wq hSw; go_simp; first | done | with_reducible rfl
            simp only [List.getElem_toArray, List.getElem_cons_zero, List.getElem_cons_succ, Act.put, List.setIfInBounds_toArray, List.set_cons_zero, List.set_cons_succ]
            refine wpAnyH_take (i := 8) (v := ?_) rfl (by kernel_rfl) (by kernel_rfl) (by kernel_rfl) (fun _ _ _ h => h) (Or.inl ⟨by rfl, ?_⟩) Z0.out ?_
            rotate_left
            · intro wq hSw; go_simp; first | done | with_reducible rfl
            simp only [List.getElem_toArray, List.getElem_cons_zero, List.getElem_cons_succ, Act.put, List.setIfInBounds_toArray, List.set_cons_zero, List.set_cons_succ]
            refine wpAnyH_take (i := 9) (v := ?_) rfl (by kernel_rfl) (by kernel_rfl) (by kernel_rfl) (fun _ _ _ h => h) (Or.inl ⟨by rfl, ?_⟩) Z0.out ?_
            rotate_left
            · intro wq hSw; have cl0 := hSw.xb.cell 0; go_simp; first | done | with_reducible rfl
            simp only [List.getElem_toArray, List.getElem_cons_zero, List.getElem_cons_succ, Act.put, List.setIfInBounds_toArray, List.set_cons_zero, List.set_cons_succ]
            refine wpAnyH_take (i := 10) (v := ?_) rfl (by kernel_rfl) (by kernel_rfl) (by kernel_rfl) (fun _ _ _ h => h) (Or.inl ⟨by rfl, ?_⟩) Z0.out ?_
            rotate_left
            · intro wq hSw; go_simp; first | done | with_reducible rfl
            simp only [List.getElem_toArray, List.getElem_cons_zero, List.getElem_cons_succ, Act.put, List.setIfInBounds_toArray, List.set_cons_zero, List.set_cons_succ]
            refine wpAnyH_take (i := 11) (v := ?_) rfl (by kernel_rfl) (by kernel_rfl) (by kernel_rfl) (fun _ _ _ h => h) (Or.inl ⟨by rfl, ?_⟩) Z0.out ?_
            rotate_left
            · intro wq hSw; go_simp; first | done | with_reducible rfl
            simp only [List.getElem_toArray, List.getElem_cons_zero, List.getElem_cons_succ, Act.put, List.setIfInBounds_toArray, List.set_cons_zero, List.set_cons_succ]
            refine wpAnyH_take (i := 12) (v := ?_) rfl (by kernel_rfl) (by kernel_rfl) (by kernel_rfl) (fun _ _ _ h => h) (Or.inl ⟨by rfl, ?_⟩) Z0.out ?_
            rotate_left
            · intro wq hSw; go_simp; first | done | with_reducible rfl
            simp only [List.getElem_toArray, List.getElem_cons_zero, List.getElem_cons_succ, Act.put, List.setIfInBounds_toArray, List.set_cons_zero, List.set_cons_succ]
            refine wpAnyH_take (i := 13) (v := ?_) rfl (by kernel_rfl) (by kernel_rfl) (by kernel_rfl) (fun _ _ _ h => h) (Or.inl ⟨by rfl, ?_⟩) Z0.out ?_
            rotate_left
            · intro wq hSw; have cl0 := keep_of_below hSw.since _ _ P2.out; go_simp; first | done | with_reducible rfl
            simp only [List.getElem_toArray, List.getElem_cons_zero, List.getElem_cons_succ, Act.put, List.setIfInBounds_toArray, List.set_cons_zero, List.set_cons_succ]
            refine wpAnyH_take (i := 14) (v := ?_) rfl (by kernel_rfl) (by kernel_rfl) (by kernel_rfl) (fun _ _ _ h => h) (Or.inl ⟨by rfl, ?_⟩) Z0.out ?_
            rotate_left
            · intro wq hSw; go_simp; first | done | with_reducible rfl
            simp only [List.getElem_toArray, List.getElem_cons_zero, List.getElem_cons_succ, Act.put, List.setIfInBounds_toArray, List.set_cons_zero, List.set_cons_succ]
            refine wpAnyH_take (i := 15) (v := ?_) rfl (by kernel_rfl) (by kernel_rfl) (by kernel_rfl) (fun _ _ _ h => h) (Or.inl ⟨by rfl, ?_⟩) Z0.out ?_
            rotate_left
            · intro wq hSw; go_simp; first | done | with_reducible rfl
            simp only [List.getElem_toArray, List.getElem_cons_zero, List.getElem_cons_succ, Act.put, List.setIfInBounds_toArray, List.set_cons_zero, List.set_cons_succ]
            refine wpAnyH_take (i := 16) (v := ?_) rfl (by kernel_rfl) (by kernel_rfl) (by kernel_rfl) (fun _ _ _ h => h) (Or.inl ⟨by rfl, ?_⟩) Z0.out ?_
            rotate_left
            · intro wq hSw; go_simp; first | done | with_reducible rfl
            simp only [List.getElem_toArray, List.getElem_cons_zero, List.getElem_cons_succ, Act.put, List.setIfInBounds_toArray, List.set_cons_zero, List.set_cons_succ]
            refine wpAnyH_take (i := 17) (v := ?_) rfl (by kernel_rfl) (by kernel_rfl) (by kernel_rfl) (fun _ _ _ h => h) (Or.inl ⟨by rfl, ?_⟩) Z0.out ?_
            rotate_left
            · intro wq hSw; have cl0 := hSw.xb.cell 0; have cl1 := hSw.xb.cell 1; go_simp; first | done | with_reducible rfl
            simp only [List.getElem_toArray, List.getElem_cons_zero, List.getElem_cons_succ, Act.put, List.setIfInBounds_toArray, List.set_cons_zero, List.set_cons_succ]
            refine wpAnyH_take (i := 18) (v := ?_) rfl (by kernel_rfl) (by kernel_rfl) (by kernel_rfl) (fun _ _ _ h => h) (Or.inl ⟨by rfl, ?_⟩) Z0.out ?_
            rotate_left
            · intro wq hSw; go_simp; first | done | with_reducible rfl
            simp only [List.getElem_toArray, List.getElem_cons_zero, List.getElem_cons_succ, Act.put, List.setIfInBounds_toArray, List.set_cons_zero, List.set_cons_succ]
            refine wpAnyH_take (i := 19) (v := ?_) rfl (by kernel_rfl) (by kernel_rfl) (by kernel_rfl) (fun _ _ _ h => h) (Or.inl ⟨by rfl, ?_⟩) Z0.out ?_
            rotate_left
            · intro wq hSw; have cl0 := hSw.xb.cell 0; go_simp; first | done | with_reducible rfl
            simp only [List.getElem_toArray, List.getElem_cons_zero, List.getElem_cons_succ, Act.put, List.setIfInBounds_toArray, List.set_cons_zero, List.set_cons_succ]
            refine wpAnyH_take (i := 20) (v := ?_) rfl (by kernel_rfl) (by kernel_rfl) (by kernel_rfl) (fun _ _ _ h => h) (Or.inl ⟨by rfl, ?_⟩) Z0.out ?_
            rotate_left
            · intro wq hSw; go_simp; first | done | with_reducible rfl
            simp only [List.getElem_toArray, List.getElem_cons_zero, List.getElem_cons_succ, Act.put, List.setIfInBounds_toArray, List.set_cons_zero, List.set_cons_succ]
            refine wpAnyH_take (i := 21) (v := ?_) rfl (by kernel_rfl) (by kernel_rfl) (by kernel_rfl) (fun _ _ _ h => h) (Or.inl ⟨by rfl, ?_⟩) Z0.out ?_
            rotate_left
            · intro wq hSw; go_simp; first | done | with_reducible rfl
            simp only [List.getElem_toArray, List.getElem_cons_zero, List.getElem_cons_succ, Act.put, List.setIfInBounds_toArray, List.set_cons_zero, List.set_cons_succ]
            refine wpAnyH_take (i := 22) (v := ?_) rfl (by kernel_rfl) (by kernel_rfl) (by kernel_rfl) (fun _ _ _ h => h) (Or.inl ⟨by rfl, ?_⟩) Z0.out ?_
            rotate_left
            · intro wq hSw; go_simp; first | done | with_reducible rfl
            simp only [List.getElem_toArray, List.getElem_cons_zero, List.getElem_cons_succ, Act.put, List.setIfInBounds_toArray, List.set_cons_zero, List.set_cons_succ]
            refine wpAnyH_take (i := 23) (v := ?_) rfl (by kernel_rfl) (by kernel_rfl) (by kernel_rfl) (fun _ _ _ h => h) (Or.inl ⟨by rfl, ?_⟩) Z0.out ?_
            rotate_left
            · intro wq hSw; have cl0 := keep_of_below hSw.since _ _ P1.out; go_simp; first | done | with_reducible rfl
            simp only [List.getElem_toArray, List.getElem_cons_zero, List.getElem_cons_succ, Act.put, List.setIfInBounds_toArray, List.set_cons_zero, List.set_cons_succ]
            refine wpAnyH_take (i := 25) (v := ?_) rfl (by kernel_rfl) (by kernel_rfl) (by kernel_rfl) (fun _ _ _ h => h) (Or.inl ⟨by rfl, ?_⟩) Z0.out ?_
            rotate_left
            · intro wq hSw; go_simp; first | done | with_reducible rfl
            simp only [List.getElem_toArray, List.getElem_cons_zero, List.getElem_cons_succ, Act.put, List.setIfInBounds_toArray, List.set_cons_zero, List.set_cons_succ]
            refine wpAnyH_ready (rs := [24]) (by kernel_rfl) (by simp) ?_
            refine AllReadyH.cons rfl (fun K0 hK0 => ?_) ?_
            rotate_left
            · exact AllReadyH.nil
            refine step_func 38 #[.agg #[.slice (some ⟨b2, o2, none⟩) m cp2, .int .i64 ag], .string t] (by rfl) rfl (by simp [Act.eval]) (fun _ _ => by kernel_rfl) ?_
            refine (AC.out _ (bel_trans BX.out Z0.out.since)).mono ?_
            rintro e v1 ⟨rfl, b1⟩
            have Z1 := hidE (Z0.out.next b1)
            clear b1
            refine ⟨_, rfl, ?_⟩
            refine hK0.out _ _ (by exact Z1.out) (fun hHeld => ?_)
            clear hK0 K0 hHeld
            simp only [Act.put, List.setIfInBounds_toArray]
            refine wpAnyH_take (i := 26) (v := ?_) rfl (by kernel_rfl) (by kernel_rfl) (by kernel_rfl) (fun _ _ _ h => h) (Or.inl ⟨by rfl, ?_⟩) Z1.out ?_
            rotate_left
            · intro wq hSw; go_simp; first | done | with_reducible rfl
            simp only [List.getElem_toArray, List.getElem_cons_zero, List.getElem_cons_succ, Act.put, List.setIfInBounds_toArray, List.set_cons_zero, List.set_cons_succ]
            refine wpAnyH_take (i := 27) (v := ?_) rfl (by kernel_rfl) (by kernel_rfl) (by kernel_rfl) (fun _ _ _ h => h) (Or.inl ⟨by rfl, ?_⟩) Z1.out ?_
            rotate_left
            · intro wq hSw; go_simp; first | done | with_reducible rfl
            simp only [List.getElem_toArray, List.getElem_cons_zero, List.getElem_cons_succ, Act.put, List.setIfInBounds_toArray, List.set_cons_zero, List.set_cons_succ]
            refine wpAnyH_done (by kernel_rfl) ?_ _
            refine NoPanic.normal ?_
            refine hQQ.out _ _ ?_
            clear hQQ
            go_wp2_with fail
            go_roundg (m - (j + 1))
            case measure => have := HJ.out; omega
            case rel => exact ⟨j + 1, ⟨rfl, by omega, Z1.out, fun i e hi he => by
              by_cases z : i = j
              · subst z
                rw [HEE.out] at he
                cases he
                exact TR.out
              · exact HT.out i e (by omega) he⟩, by go_num⟩
          · have q : (atI y.es t != (j : Int)) = true := by simp; omega
            have NS : Hid (¬ RightE F) := NE.out fun h => by
              have := h.2.2
              simp only at this
              exact at0 (atI_some this)
            clear at0
            refine letterQ ?_
            intro QQ hQQ
            have Z0 : Hid (RtIn X wr.drew gb (some ⟨b2, o2, none⟩) m cp2 ag) := ⟨HB.out.since.drew, HB.out.xb⟩
            refine wp_region_held_drew (S := fun w2 => RtIn X w2 gb (some ⟨b2, o2, none⟩) m cp2 ag) (by kernel_rfl) Z0.out (fun hHeld => ?_)
            clear hHeld
            generalize wr.drew = q0 at Z0 ⊢
            refine wpAnyH_take (i := 0) (v := ?_) rfl (by kernel_rfl) (by kernel_rfl) (by kernel_rfl) (fun _ _ _ h => h) (Or.inl ⟨by rfl, ?_⟩) Z0.out ?_
            rotate_left
            · intro wq hSw; go_simp; first | done | with_reducible rfl
            simp only [List.getElem_toArray, List.getElem_cons_zero, Act.put, List.setIfInBounds_toArray, List.set_cons_zero, List.set_cons_succ]
            refine wpAnyH_take (i := 1) (v := ?_) rfl (by kernel_rfl) (by kernel_rfl) (by kernel_rfl) (fun _ _ _ h => h) (Or.inl ⟨by rfl, ?_⟩) Z0.out ?_
            rotate_left
            · intro wq hSw; have cl0 := hSw.xb.cell 0; go_simp; first | done | with_reducible rfl
            simp only [List.getElem_toArray, List.getElem_cons_zero, List.getElem_cons_succ, Act.put, List.setIfInBounds_toArray, List.set_cons_zero, List.set_cons_succ]
            refine wpAnyH_take (i := 2) (v := ?_) rfl (by kernel_rfl) (by kernel_rfl) (by kernel_rfl) (fun _ _ _ h => h) (Or.inl ⟨by rfl, ?_⟩) Z0.out ?_
            rotate_left
            · intro wq hSw; go_simp; first | done | with_reducible rfl
            simp only [List.getElem_toArray, List.getElem_cons_zero, List.getElem_cons_succ, Act.put, List.setIfInBounds_toArray, List.set_cons_zero, List.set_cons_succ]
            refine wpAnyH_take (i := 3) (v := ?_) rfl (by kernel_rfl) (by kernel_rfl) (by kernel_rfl) (fun _ _ _ h => h) (Or.inl ⟨by rfl, ?_⟩) Z0.out ?_
            rotate_left
            · intro wq hSw; go_simp; first | done | with_reducible rfl
            simp only [List.getElem_toArray, List.getElem_cons_zero, List.getElem_cons_succ, Act.put, List.setIfInBounds_toArray, List.set_cons_zero, List.set_cons_succ]
            refine wpAnyH_take (i := 4) (v := ?_) rfl (by kernel_rfl) (by kernel_rfl) (by kernel_rfl) (fun _ _ _ h => h) (Or.inl ⟨by rfl, ?_⟩) Z0.out ?_
            rotate_left
            · intro wq hSw; go_simp; first | done | with_reducible rfl
            simp only [List.getElem_toArray, List.getElem_cons_zero, List.getElem_cons_succ, Act.put, List.setIfInBounds_toArray, List.set_cons_zero, List.set_cons_succ]
            refine wpAnyH_take (i := 5) (v := ?_) rfl (by kernel_rfl) (by kernel_rfl) (by kernel_rfl) (fun _ _ _ h => h) (Or.inl ⟨by rfl, ?_⟩) Z0.out ?_
            rotate_left
            · intro wq hSw; have cl0 := keep_of_below hSw.since _ _ P2.out; go_simp; first | done | with_reducible rfl
            simp only [List.getElem_toArray, List.getElem_cons_zero, List.getElem_cons_succ, Act.put, List.setIfInBounds_toArray, List.set_cons_zero, List.set_cons_succ]
            refine wpAnyH_take (i := 6) (v := ?_) rfl (by kernel_rfl) (by kernel_rfl) (by kernel_rfl) (fun _ _ _ h => h) (Or.inl ⟨by rfl, ?_⟩) Z0.out ?_
            rotate_left
            · intro wq hSw; go_simp; first | done | with_reducible rfl
            simp only [List.getElem_toArray, List.getElem_cons_zero, List.getElem_cons_succ, Act.put, List.setIfInBounds_toArray, List.set_cons_zero, List.set_cons_succ]
            refine wpAnyH_take (i := 7) (v := ?_) rfl (by kernel_rfl) (by kernel_rfl) (by kernel_rfl) (fun _ _ _ h => h) (Or.inl ⟨by rfl, ?_⟩) Z0.out ?_
            rotate_left
            · intro wq hSw; go_simp; first | done | with_reducible rfl
            simp only [List.getElem_toArray, List.getElem_cons_zero, List.getElem_cons_succ, Act.put, List.setIfInBounds_toArray, List.set_cons_zero, List.set_cons_succ]
            refine wpAnyH_take (i := 8) (v := ?_) rfl (by kernel_rfl) (by kernel_rfl) (by kernel_rfl) (fun _ _ _ h => h) (Or.inl ⟨by rfl, ?_⟩) Z0.out ?_
            rotate_left
            · intro wq hSw; go_simp; first | done | with_reducible rfl
            simp only [List.getElem_toArray, List.getElem_cons_zero, List.getElem_cons_succ, Act.put, List.setIfInBounds_toArray, List.set_cons_zero, List.set_cons_succ]
            refine wpAnyH_take (i := 9) (v := ?_) rfl (by kernel_rfl) (by kernel_rfl) (by kernel_rfl) (fun _ _ _ h => h) (Or.inl ⟨by rfl, ?_⟩) Z0.out ?_
            rotate_left
            · intro wq hSw; have cl0 := hSw.xb.cell 0; go_simp; first | done | with_reducible rfl
            simp only [List.getElem_toArray, List.getElem_cons_zero, List.getElem_cons_succ, Act.put, List.setIfInBounds_toArray, List.set_cons_zero, List.set_cons_succ]
            refine wpAnyH_take (i := 10) (v := ?_) rfl (by kernel_rfl) (by kernel_rfl) (by kernel_rfl) (fun _ _ _ h => h) (Or.inl ⟨by rfl, ?_⟩) Z0.out ?_
            rotate_left
            · intro wq hSw; go_simp; first | done | with_reducible rfl
            simp only [List.getElem_toArray, List.getElem_cons_zero, List.getElem_cons_succ, Act.put, List.setIfInBounds_toArray, List.set_cons_zero, List.set_cons_succ]
            refine wpAnyH_take (i := 11) (v := ?_) rfl (by kernel_rfl) (by kernel_rfl) (by kernel_rfl) (fun _ _ _ h => h) (Or.inl ⟨by rfl, ?_⟩) Z0.out ?_
            rotate_left
            · intro wq hSw; go_simp; first | done | with_reducible rfl
            simp only [List.getElem_toArray, List.getElem_cons_zero, List.getElem_cons_succ, Act.put, List.setIfInBounds_toArray, List.set_cons_zero, List.set_cons_succ]
            refine wpAnyH_take (i := 12) (v := ?_) rfl (by kernel_rfl) (by kernel_rfl) (by kernel_rfl) (fun _ _ _ h => h) (Or.inl ⟨by rfl, ?_⟩) Z0.out ?_
            rotate_left
            · intro wq hSw; go_simp; first | done | with_reducible rfl
            simp only [List.getElem_toArray, List.getElem_cons_zero, List.getElem_cons_succ, Act.put, List.setIfInBounds_toArray, List.set_cons_zero, List.set_cons_succ]
            refine wpAnyH_take (i := 13) (v := ?_) rfl (by kernel_rfl) (by kernel_rfl) (by kernel_rfl) (fun _ _ _ h => h) (Or.inl ⟨by rfl, ?_⟩) Z0.out ?_
            rotate_left
            · intro wq hSw; have cl0 := keep_of_below hSw.since _ _ P2.out; go_simp; first | done | with_reducible rfl
            simp only [List.getElem_toArray, List.getElem_cons_zero, List.getElem_cons_succ, Act.put, List.setIfInBounds_toArray, List.set_cons_zero, List.set_cons_succ]
            refine wpAnyH_take (i := 14) (v := ?_) rfl (by kernel_rfl) (by kernel_rfl) (by kernel_rfl) (fun _ _ _ h => h) (Or.inl ⟨by rfl, ?_⟩) Z0.out ?_
            rotate_left
            · intro wq hSw; go_simp; first | done | with_reducible rfl
            simp only [List.getElem_toArray, List.getElem_cons_zero, List.getElem_cons_succ, Act.put, List.setIfInBounds_toArray, List.set_cons_zero, List.set_cons_succ]
            refine wpAnyH_take (i := 15) (v := ?_) rfl (by kernel_rfl) (by kernel_rfl) (by kernel_rfl) (fun _ _ _ h => h) (Or.inl ⟨by rfl, ?_⟩) Z0.out ?_
            rotate_left
            · intro wq hSw; go_simp; first | done | with_reducible rfl
            simp only [List.getElem_toArray, List.getElem_cons_zero, List.getElem_cons_succ, Act.put, List.setIfInBounds_toArray, List.set_cons_zero, List.set_cons_succ]
            refine wpAnyH_take (i := 16) (v := ?_) rfl (by kernel_rfl) (by kernel_rfl) (by kernel_rfl) (fun _ _ _ h => h) (Or.inl ⟨by rfl, ?_⟩) Z0.out ?_
            rotate_left
            · intro wq hSw; go_simp; first | done | with_reducible rfl
            simp only [List.getElem_toArray, List.getElem_cons_zero, List.getElem_cons_succ, Act.put, List.setIfInBounds_toArray, List.set_cons_zero, List.set_cons_succ]
            refine wpAnyH_take (i := 17) (v := ?_) rfl (by kernel_rfl) (by kernel_rfl) (by kernel_rfl) (fun _ _ _ h => h) (Or.inl ⟨by rfl, ?_⟩) Z0.out ?_
            rotate_left
            · intro wq hSw; have cl0 := hSw.xb.cell 0; have cl1 := hSw.xb.cell 1; go_simp; first | done | with_reducible rfl
            simp only [List.getElem_toArray, List.getElem_cons_zero, List.getElem_cons_succ, Act.put, List.setIfInBounds_toArray, List.set_cons_zero, List.set_cons_succ]
            refine wpAnyH_take (i := 18) (v := ?_) rfl (by kernel_rfl) (by kernel_rfl) (by kernel_rfl) (fun _ _ _ h => h) (Or.inl ⟨by rfl, ?_⟩) Z0.out ?_
            rotate_left
            · intro wq hSw; go_simp; first | done | with_reducible rfl
            simp only [List.getElem_toArray, List.getElem_cons_zero, List.getElem_cons_succ, Act.put, List.setIfInBounds_toArray, List.set_cons_zero, List.set_cons_succ]
            refine wpAnyH_take (i := 19) (v := ?_) rfl (by kernel_rfl) (by kernel_rfl) (by kernel_rfl) (fun _ _ _ h => h) (Or.inl ⟨by rfl, ?_⟩) Z0.out ?_
            rotate_left
            · intro wq hSw; have cl0 := hSw.xb.cell 0; go_simp; first | done | with_reducible rfl
            simp only [List.getElem_toArray, List.getElem_cons_zero, List.getElem_cons_succ, Act.put, List.setIfInBounds_toArray, List.set_cons_zero, List.set_cons_succ]
            refine wpAnyH_take (i := 20) (v := ?_) rfl (by kernel_rfl) (by kernel_rfl) (by kernel_rfl) (fun _ _ _ h => h) (Or.inl ⟨by rfl, ?_⟩) Z0.out ?_
            rotate_left
            · intro wq hSw; go_simp; first | done | with_reducible rfl
            simp only [List.getElem_toArray, List.getElem_cons_zero, List.getElem_cons_succ, Act.put, List.setIfInBounds_toArray, List.set_cons_zero, List.set_cons_succ]
            refine wpAnyH_take (i := 21) (v := ?_) rfl (by kernel_rfl) (by kernel_rfl) (by kernel_rfl) (fun _ _ _ h => h) (Or.inl ⟨by rfl, ?_⟩) Z0.out ?_
            rotate_left
            · intro wq hSw; go_simp; first | done | with_reducible rfl
            simp only [List.getElem_toArray, List.getElem_cons_zero, List.getElem_cons_succ, Act.put, List.setIfInBounds_toArray, List.set_cons_zero, List.set_cons_succ]
            refine wpAnyH_take (i := 22) (v := ?_) rfl (by kernel_rfl) (by kernel_rfl) (by kernel_rfl) (fun _ _ _ h => h) (Or.inl ⟨by rfl, ?_⟩) Z0.out ?_
            rotate_left
            · intro wq hSw; go_simp; first | done | with_reducible rfl
            simp only [List.getElem_toArray, List.getElem_cons_zero, List.getElem_cons_succ, Act.put, List.setIfInBounds_toArray, List.set_cons_zero, List.set_cons_succ]
            refine wpAnyH_take (i := 23) (v := ?_) rfl (by kernel_rfl) (by kernel_rfl) (by kernel_rfl) (fun _ _ _ h => h) (Or.inl ⟨by rfl, ?_⟩) Z0.out ?_
            rotate_left
            · intro wq hSw; have cl0 := keep_of_below hSw.since _ _ P1.out; go_simp; first | done | with_reducible rfl
            simp only [List.getElem_toArray, List.getElem_cons_zero, List.getElem_cons_succ, Act.put, List.setIfInBounds_toArray, List.set_cons_zero, List.set_cons_succ]
            refine wpAnyH_take (i := 25) (v := ?_) rfl (by kernel_rfl) (by kernel_rfl) (by kernel_rfl) (fun _ _ _ h => h) (Or.inl ⟨by rfl, ?_⟩) Z0.out ?_
            rotate_left
            · intro wq hSw; go_simp; first | done | with_reducible rfl
            simp only [List.getElem_toArray, List.getElem_cons_zero, List.getElem_cons_succ, Act.put, List.setIfInBounds_toArray, List.set_cons_zero, List.set_cons_succ]
            refine wpAnyH_ready (rs := [24]) (by kernel_rfl) (by simp) ?_
            refine AllReadyH.cons rfl (fun K0 hK0 => ?_) ?_
            rotate_left
            · exact AllReadyH.nil
            refine step_func 38 #[.agg #[.slice (some ⟨b2, o2, none⟩) m cp2, .int .i64 ag], .string t] (by rfl) rfl (by simp [Act.eval]) (fun _ _ => by kernel_rfl) ?_
            refine (AC.out _ (bel_trans BX.out Z0.out.since)).mono ?_
            rintro e v1 ⟨rfl, b1⟩
            have Z1 := hidE (Z0.out.next b1)
            clear b1
            refine ⟨_, rfl, ?_⟩
            refine hK0.out _ _ (by exact Z1.out) (fun hHeld => ?_)
            clear hK0 K0 hHeld
            simp only [Act.put, List.setIfInBounds_toArray]
            refine wpAnyH_take (i := 26) (v := ?_) rfl (by kernel_rfl) (by kernel_rfl) (by kernel_rfl) (fun _ _ _ h => h) (Or.inl ⟨by rfl, ?_⟩) Z1.out ?_
            rotate_left
            · intro wq hSw; go_simp; first | done | with_reducible rfl
            simp only [List.getElem_toArray, List.getElem_cons_zero, List.getElem_cons_succ, Act.put, List.setIfInBounds_toArray, List.set_cons_zero, List.set_cons_succ]
            refine wpAnyH_take (i := 27) (v := ?_) rfl (by kernel_rfl) (by kernel_rfl) (by kernel_rfl) (fun _ _ _ h => h) (Or.inl ⟨by rfl, ?_⟩) Z1.out ?_
            rotate_left
            · intro wq hSw; go_simp; first | done | with_reducible rfl
            simp only [List.getElem_toArray, List.getElem_cons_zero, List.getElem_cons_succ, Act.put, List.setIfInBounds_toArray, List.set_cons_zero, List.set_cons_succ]
            refine wpAnyH_done (by kernel_rfl) ?_ _
            refine NoPanic.normal ?_
            refine hQQ.out _ _ ?_
            clear hQQ
            go_wp2_with fail
            go_ret
            exact ⟨false, rfl, ⟨fun h => (by cases h), fun h => absurd h NS.out⟩, bel_trans BX.out Z1.out.since⟩
        · have bj : ¬ (j : Int) < (m : Int) := by omega
          go_wp2_with fail
          go_roundg (n - (k + 1))
          case measure => have := HG.out; omega
          case rel => exact ⟨k + 1, ⟨rfl, by omega, HB.out.since, fun i b hi hb => by
            by_cases z : i = k
            · subst z
              rw [HY.out] at hb
              cases hb
              exact ⟨by rw [← HM.out]; omega, by rw [← HAG.out]; omega, by rw [← HAG.out]; omega, fun i e he => HT.out i e (by have := (List.getElem?_eq_some_iff.1 he).1; have := HM.out; omega) he⟩
            · exact HS.out i b (by omega) hb⟩, by go_num⟩
    · have bk : ¬ (k : Int) < (n : Int) := by omega
      have YS : Hid (RightE F) := ⟨by omega, by omega, by omega, by omega, by rw [← HN.out]; omega, by rw [← HN.out]; omega, RP.out, G7.out, G8.out, fun i b hb => HS.out i b (by have := (List.getElem?_eq_some_iff.1 hb).1; have := HN.out; omega) hb⟩
      go_wp2_with fail
      go_ret
      exact ⟨true, rfl, ⟨fun _ => YS.out, fun _ => rfl⟩, bel_trans BX.out HB.out⟩
end Go.Proofs.Ytihealembikkiaa
namespace Go.Proofs.Ytihealembikkiaa
open Go.RowKit Fm Bl Lt El L2 L10 L14 Go.Deep Go.Shelf
set_option linter.unusedVariables false
set_option maxRecDepth 20000
set_option linter.unusedSimpArgs false

/-- Buckets that ref has made so far. -/
structure RfB (w X wr : World) (v : Value) (l : List Bkt) : Prop where
  since : Below w.heap.size w wr
  size : X.heap.size ≤ wr.heap.size
  row : ∃ vs : List Value, vs.length = l.length ∧ wr.ownsRow X.heap.size 74 2 v l.length (bCells (vs.zip (l.map Bkt.ag))) ∧ ∀ (i : Nat) (x : Bkt) (ev : Value), l[i]? = some x → vs[i]? = some ev → Held (fun q => X.heap.size ≤ q ∧ some q ≠ v.ownBlock) (fun u => EntsE u ev x.es) wr
theorem RfB.keep {w X wr w2 : World} {v : Value} {l : List Bkt} (h : RfB w X wr v l) (s : Same (fun q => X.heap.size ≤ q) wr w2) (b : Below w.heap.size w w2) : RfB w X w2 v l := by
  obtain ⟨vs, hl, own, hx⟩ := h.row
  exact ⟨b, Nat.le_trans h.size s.1, vs, hl, owns_at own fun q hq => s.2 q (own.lt q hq).1 (own.lt q hq).2, fun i x ev hi hv => (hx i x ev hi hv).same (s.mono fun q _ d => d.1)⟩
theorem RfB.step {w X wr w1 : World} {v ev : Value} {g cap : Nat} {l : List Bkt} {x : Bkt} {b : Obj} (h : RfB w X wr v l) (vs : List Value) (hl : vs.length = l.length) (own : wr.ownsRow X.heap.size 74 2 v l.length (bCells (vs.zip (l.map Bkt.ag)))) (hx : ∀ (i : Nat) (x : Bkt) (ev : Value), l[i]? = some x → vs[i]? = some ev → Held (fun q => X.heap.size ≤ q ∧ some q ≠ v.ownBlock) (fun u => EntsE u ev x.es) wr) (he : Held (fun q => X.heap.size ≤ q ∧ some q ≠ v.ownBlock) (fun u => EntsE u ev x.es) wr) (bw : w.heap.size ≤ X.heap.size)
    (hown : w1.ownsRow X.heap.size 74 2 (.slice (some ⟨g, 0, none⟩) (l.length + 1) cap) (l.length + 1) (bCells (vs.zip (l.map Bkt.ag)) ++ [ev, .int .i64 x.ag])) (hg : (wr.alloc b).grownBy w1 v.ownBlock) (hn : v.ownBlock = some g ∨ wr.heap.size ≤ g) : RfB w X w1 (.slice (some ⟨g, 0, none⟩) (l.length + 1) cap) (l ++ [x]) := by
  have sm : Same (fun q => some q ≠ v.ownBlock) wr w1 := ⟨by have := hg.size; simp at this; omega, fun q d hq => (hg.block q (by simp; omega) d).trans (Below.heap_alloc _ _ _ hq)⟩
  have gx : X.heap.size ≤ g := (hown.lt g rfl).1
  have to : ∀ {P : World → Prop}, Held (fun q => X.heap.size ≤ q ∧ some q ≠ v.ownBlock) P wr → Held (fun q => X.heap.size ≤ q ∧ some q ≠ (Value.slice (some ⟨g, 0, none⟩) (l.length + 1) cap).ownBlock) P w1 := fun hp u e => hp u ⟨by have := e.1; have := sm.1; omega, fun q d hq => by
    have lt : q < w1.heap.size := by have := sm.1; omega
    rw [e.2 q ⟨d.1, fun z => by
      have z2 : q = g := by simpa [Value.ownBlock] using z
      rcases hn with h1 | h1
      · exact d.2 (by rw [h1, z2])
      · omega⟩ lt]
    exact sm.2 q d.2 hq⟩
  refine ⟨(h.since.alloc (by have := h.size; omega) b).grown hg (by have := h.size; simp; omega) fun p e => by have := (own.lt p e).1; omega, by have := sm.1; have := h.size; omega, vs ++ [ev], by simp [hl], ?_, fun i y ey hy hey => ?_⟩
  · rw [List.map_append, List.zip_append (by simp [hl]), bCells_append, List.length_append, List.length_singleton]
    exact hown
  · by_cases li : i < l.length
    · rw [List.getElem?_append_left li] at hy
      rw [List.getElem?_append_left (by omega)] at hey
      exact to (hx i y ey hy hey)
    · have ei : i = l.length := by
        have := (List.getElem?_eq_some_iff.1 hy).1
        simp at this
        omega
      subst ei
      rw [List.getElem?_append_right (Nat.le_refl _)] at hy
      rw [List.getElem?_append_right (by omega)] at hey
      simp [hl] at hy hey
      subst hy hey
      exact to he
theorem RfB.bkts {w X wr : World} {v : Value} {l : List Bkt} (h : RfB w X wr v l) : Held (fun q => X.heap.size ≤ q) (fun u => BktsE u v l) wr := fun u e => by
  obtain ⟨vs, hl, own0, hx⟩ := h.row
  have own : u.ownsRow X.heap.size 74 2 v l.length (bCells (vs.zip (l.map Bkt.ag))) := owns_at own0 fun q hq => e.2 q (own0.lt q hq).1 (own0.lt q hq).2
  have get : ∀ (i : Nat) (x : Bkt), l[i]? = some x → ∃ ev, vs[i]? = some ev ∧ (vs.zip (l.map Bkt.ag))[i]? = some (ev, x.ag) := fun i x hi => by
    have li := (List.getElem?_eq_some_iff.1 hi).1
    refine ⟨_, List.getElem?_eq_getElem (by omega), ?_⟩
    rw [List.getElem?_zip_eq_some, List.getElem?_map, hi]
    exact ⟨List.getElem?_eq_getElem (by omega), rfl⟩
  rcases own.2 with ⟨rfl, h0⟩ | ⟨g, cap, cur, rfl, _, hg, hn, _, _, _⟩
  · exact ⟨none, 0, 0, 0, by rw [h0], by omega, fun z => by omega, fun i x hi => by have := (List.getElem?_eq_some_iff.1 hi).1; omega⟩
  · refine ⟨_, cap, g, 0, rfl, hn, fun _ => rfl, fun i x hi => ?_⟩
    have li := (List.getElem?_eq_some_iff.1 hi).1
    obtain ⟨ev, e0, ez⟩ := get i x hi
    obtain ⟨g1, g2⟩ := bCells_get _ i _ ez
    have e1 := own.cellAt (j := i * 2) (by omega)
    have e2 := own.cellAt (j := i * 2 + 1) (by omega)
    rw [Nat.zero_add]
    exact ⟨ev, by rw [e1]; exact g1, by rw [e2]; exact g2, hx i x ev hi e0 u (e.mono fun q _ d => d.1)⟩
theorem RfB.slice {w X wr : World} {v : Value} {l : List Bkt} (h : RfB w X wr v l) : ∃ A c, v = .slice A l.length c := by
  obtain ⟨vs, _, own, _⟩ := h.row
  exact own_slice own
/-- A bucket that ref makes. -/
structure RfE (w Y wr : World) (gy : Nat) (ve : Value) (ag : Int) (l : List Ent) : Prop where
  since : Below w.heap.size w wr
  same : Same (fun q => q ≠ gy) Y wr
  yb : Blk wr gy 74 #[ve, .int .i64 ag]
  own : wr.ownsRow Y.heap.size 77 3 ve l.length (eCells l)
  lt : gy < Y.heap.size
  low : w.heap.size ≤ gy
theorem RfE.alloc {w Y wr : World} {gy : Nat} {ve : Value} {ag : Int} {l : List Ent} (h : RfE w Y wr gy ve ag l) (b : Obj) : RfE w Y (wr.alloc b) gy ve ag l :=
  ⟨bel_trans h.since (bel_alloc _ _), h.same.trans (Same.below (bel_alloc _ _)), h.yb.alloc b, h.own.alloc b, h.lt, h.low⟩
theorem RfE.step {w Y wr w1 : World} {gy g cap : Nat} {ve : Value} {ag : Int} {l : List Ent} {x : Ent} {b : Obj} (h : RfE w Y wr gy ve ag l) (hown : w1.ownsRow Y.heap.size 77 3 (.slice (some ⟨g, 0, none⟩) (l.length + 1) cap) (l.length + 1) (eCells l ++ [.string x.k, .int .i64 x.v, .bool x.f])) (hg : (wr.alloc b).grownBy w1 ve.ownBlock) :
    Blk w1 gy 74 #[ve, .int .i64 ag] ∧ RfE w Y (w1.setCell ⟨gy, 0, none⟩ (.slice (some ⟨g, 0, none⟩) (l.length + 1) cap)) gy (.slice (some ⟨g, 0, none⟩) (l.length + 1) cap) ag (l ++ [x]) := by
  have lt := h.lt
  have low := h.low
  have ne : some gy ≠ ve.ownBlock := fun z => by have := (h.own.lt gy z.symm).1; omega
  have sz := h.same.1
  have sm : Same (fun q => q < Y.heap.size) wr w1 := ⟨by have := hg.size; simp at this; omega, fun q d hq => (hg.block q (by simp; omega) (fun z => by have := (h.own.lt q z.symm).1; omega)).trans (Below.heap_alloc _ _ _ hq)⟩
  have yb : Blk w1 gy 74 #[ve, .int .i64 ag] := h.yb.of (sm.2 gy lt h.yb.lt)
  have gg : Y.heap.size ≤ g := (hown.lt g rfl).1
  refine ⟨yb, ⟨((h.since.alloc (by omega) b).grown hg (by simp; omega) fun p e => by have := (h.own.lt p e).1; omega).setCell (p := ⟨gy, 0, none⟩) low _, ?_, ?_, ?_, lt, low⟩⟩
  · refine ⟨by have := sm.1; rw [size_setCell]; omega, fun q d hq => ?_⟩
    exact (Below.heap_setCell _ _ _ _ (fun (z : q = gy) => d z)).trans ((sm.2 q hq (by omega)).trans (h.same.2 q d hq))
  · have := yb.set 0 (.slice (some ⟨g, 0, none⟩) (l.length + 1) cap)
    simpa using this
  · rw [show eCells (l ++ [x]) = eCells l ++ [.string x.k, .int .i64 x.v, .bool x.f] from eCells_append l [x], List.length_append, List.length_singleton]
    exact owns_at hown fun q hq => by
      cases hq
      exact Below.heap_setCell _ _ _ _ (fun (z : g = gy) => by omega)
set_option maxHeartbeats 6400000 in
theorem eref_any (w : World) (x : Value) (F : Elk) (h : ElAt w x F) (hb : F.bs.length * 32 ≤ 140737488355328) (hE : ∀ (i : Nat) (b : Bkt), F.bs[i]? = some b → b.es.length * 32 ≤ 140737488355328) :
    Calls Try.prog 8 #[x] w fun e w' => ∃ bv bv' rv, x = elv F bv rv ∧ e = .returned (elv F bv' rv) ∧ Held (fun q => w.heap.size ≤ q) (fun u => BktsE u bv' F.bs) w' ∧ Below w.heap.size w w' := by
  obtain ⟨bv, rv, rfl, hB, hr⟩ := h
  obtain ⟨LA, lcap, _, _, rfl, _, _⟩ := hr.read
  obtain ⟨A, cap, b, o, rfl, hc, h3, h4⟩ := hB
  have H3 := hidE h3
  have H4 := hidE h4
  have HE := hidE hE
  obtain ⟨n, hn⟩ : ∃ n, n = F.bs.length := ⟨_, rfl⟩
  have HN := hidE hn
  unfold elv
  rw [← hn] at hb ⊢
  obtain ⟨it, hi, hz0, hz1, hz2⟩ := infoRET
  have HT : Hid (Try.prog.info? 77 = some it ∧ it.zero = some (.agg #[.string ⟨#[]⟩, .int .i64 0, .bool false]) ∧ it.size = 3 ∧ it.bytes = 32) := ⟨hi, hz0, hz1, hz2⟩
  clear hi hz0 hz1 hz2
  obtain ⟨ib, hi, hz0, hz1, hz2⟩ := infoRB
  have HTB : Hid (Try.prog.info? 74 = some ib ∧ ib.zero = some (.agg #[.slice none 0 0, .int .i64 0]) ∧ ib.size = 2 ∧ ib.bytes = 32) := ⟨hi, hz0, hz1, hz2⟩
  clear hi hz0 hz1 hz2
  have BX : Hid (Below w.heap.size w (((w.alloc (.cells #[.int .u64 F.S, .int .i64 F.room, .int .i64 F.votes, .slice A n cap, .int .u64 F.LS, .int .i64 F.LM, .slice LA F.R lcap] 28)).alloc (.cells #[.int .u64 0, .int .i64 0, .int .i64 0, .slice none 0 0, .int .u64 0, .int .i64 0, .slice none 0 0] 32)).alloc (.cells #[.int .u64 F.S, .int .i64 F.room, .int .i64 F.votes, .slice none 0 0, .int .u64 F.LS, .int .i64 F.LM, .slice LA F.R lcap] 32))) := ((bel_alloc _ _).alloc (by simp) _).alloc (by simp; omega) _
  have KX : Hid (Blk (((w.alloc (.cells #[.int .u64 F.S, .int .i64 F.room, .int .i64 F.votes, .slice A n cap, .int .u64 F.LS, .int .i64 F.LM, .slice LA F.R lcap] 28)).alloc (.cells #[.int .u64 0, .int .i64 0, .int .i64 0, .slice none 0 0, .int .u64 0, .int .i64 0, .slice none 0 0] 32)).alloc (.cells #[.int .u64 F.S, .int .i64 F.room, .int .i64 F.votes, .slice none 0 0, .int .u64 F.LS, .int .i64 F.LM, .slice LA F.R lcap] 32)) w.heap.size 28 #[.int .u64 F.S, .int .i64 F.room, .int .i64 F.votes, .slice A n cap, .int .u64 F.LS, .int .i64 F.LM, .slice LA F.R lcap]) := ((Blk.new _ _ _).alloc _).alloc _
  have KR : Hid (Blk (((w.alloc (.cells #[.int .u64 F.S, .int .i64 F.room, .int .i64 F.votes, .slice A n cap, .int .u64 F.LS, .int .i64 F.LM, .slice LA F.R lcap] 28)).alloc (.cells #[.int .u64 0, .int .i64 0, .int .i64 0, .slice none 0 0, .int .u64 0, .int .i64 0, .slice none 0 0] 32)).alloc (.cells #[.int .u64 F.S, .int .i64 F.room, .int .i64 F.votes, .slice none 0 0, .int .u64 F.LS, .int .i64 F.LM, .slice LA F.R lcap] 32)) (w.heap.size + 1) 32 #[.int .u64 0, .int .i64 0, .int .i64 0, .slice none 0 0, .int .u64 0, .int .i64 0, .slice none 0 0]) := by
    have e := (Blk.new (w.alloc (.cells #[.int .u64 F.S, .int .i64 F.room, .int .i64 F.votes, .slice A n cap, .int .u64 F.LS, .int .i64 F.LM, .slice LA F.R lcap] 28)) 32 #[.int .u64 0, .int .i64 0, .int .i64 0, .slice none 0 0, .int .u64 0, .int .i64 0, .slice none 0 0]).alloc (.cells #[.int .u64 F.S, .int .i64 F.room, .int .i64 F.votes, .slice none 0 0, .int .u64 F.LS, .int .i64 F.LM, .slice LA F.R lcap] 32)
    simp only [World.size_alloc] at e
    exact e
  have KY : Hid (Blk (((w.alloc (.cells #[.int .u64 F.S, .int .i64 F.room, .int .i64 F.votes, .slice A n cap, .int .u64 F.LS, .int .i64 F.LM, .slice LA F.R lcap] 28)).alloc (.cells #[.int .u64 0, .int .i64 0, .int .i64 0, .slice none 0 0, .int .u64 0, .int .i64 0, .slice none 0 0] 32)).alloc (.cells #[.int .u64 F.S, .int .i64 F.room, .int .i64 F.votes, .slice none 0 0, .int .u64 F.LS, .int .i64 F.LM, .slice LA F.R lcap] 32)) (w.heap.size + 2) 32 #[.int .u64 F.S, .int .i64 F.room, .int .i64 F.votes, .slice none 0 0, .int .u64 F.LS, .int .i64 F.LM, .slice LA F.R lcap]) := by
    have e := Blk.new ((w.alloc (.cells #[.int .u64 F.S, .int .i64 F.room, .int .i64 F.votes, .slice A n cap, .int .u64 F.LS, .int .i64 F.LM, .slice LA F.R lcap] 28)).alloc (.cells #[.int .u64 0, .int .i64 0, .int .i64 0, .slice none 0 0, .int .u64 0, .int .i64 0, .slice none 0 0] 32)) 32 #[.int .u64 F.S, .int .i64 F.room, .int .i64 F.votes, .slice none 0 0, .int .u64 F.LS, .int .i64 F.LM, .slice LA F.R lcap]
    simp only [World.size_alloc] at e
    exact e
  clear h3 h4 hE hr hn hc
  go_enter Try.func8, Try.ntmps8
  go_wp2_with fail
  have XS : Hid ((((w.alloc (.cells #[.int .u64 F.S, .int .i64 F.room, .int .i64 F.votes, .slice A n cap, .int .u64 F.LS, .int .i64 F.LM, .slice LA F.R lcap] 28)).alloc (.cells #[.int .u64 0, .int .i64 0, .int .i64 0, .slice none 0 0, .int .u64 0, .int .i64 0, .slice none 0 0] 32)).alloc (.cells #[.int .u64 F.S, .int .i64 F.room, .int .i64 F.votes, .slice none 0 0, .int .u64 F.LS, .int .i64 F.LM, .slice LA F.R lcap] 32)).heap.size = w.heap.size + 3) := hidE (by simp)
  generalize (((w.alloc (.cells #[.int .u64 F.S, .int .i64 F.room, .int .i64 F.votes, .slice A n cap, .int .u64 F.LS, .int .i64 F.LM, .slice LA F.R lcap] 28)).alloc (.cells #[.int .u64 0, .int .i64 0, .int .i64 0, .slice none 0 0, .int .u64 0, .int .i64 0, .slice none 0 0] 32)).alloc (.cells #[.int .u64 F.S, .int .i64 F.room, .int .i64 F.votes, .slice none 0 0, .int .u64 F.LS, .int .i64 F.LM, .slice LA F.R lcap] 32)) = X at BX KX KR KY XS ⊢
  have R0 : Hid (RfB w X X (.slice none 0 0) (F.bs.take 0)) := ⟨BX.out, Nat.le_refl _, [], rfl, World.ownsRow_nil _ _ _ _, fun i x ev h => by simp at h⟩
  go_loopg [5, 6, 8, 21, 31] n (fun gk s5 s6 s8 i s31 wr => ∃ (k m : Nat) (A5 : Option Addr) (c5 : Nat), (gk = n - k ∧ k ≤ n ∧ RfB w X wr (.slice A5 m c5) (F.bs.take k) ∧ Blk wr w.heap.size 28 #[.int .u64 F.S, .int .i64 F.room, .int .i64 F.votes, .slice A n cap, .int .u64 F.LS, .int .i64 F.LM, .slice LA F.R lcap] ∧ Blk wr (w.heap.size + 1) 32 #[.int .u64 0, .int .i64 0, .int .i64 0, .slice none 0 0, .int .u64 0, .int .i64 0, .slice none 0 0] ∧ Blk wr (w.heap.size + 2) 32 #[.int .u64 F.S, .int .i64 F.room, .int .i64 F.votes, .slice A5 m c5, .int .u64 F.LS, .int .i64 F.LM, .slice LA F.R lcap]) ∧ i = .int .i64 (k : Int))
  case atStart => exact ⟨0, 0, none, 0, ⟨rfl, by omega, R0.out, KX.out, KR.out, KY.out⟩, rfl⟩
  case round =>
    clear R0 KX KR KY BX
    obtain ⟨k, m, A5, c5, ⟨hgk, hk, hG, kx, kr, ky⟩, rfl⟩ := hrel
    have HK := hidE hgk
    have HG := hidE hG
    have KX := hidE kx
    have KR := hidE kr
    have KY := hidE ky
    clear hgk hG kx kr ky
    by_cases hz : k < n
    · obtain rfl := H3.out (by rw [← HN.out]; omega)
      obtain ⟨y, hy⟩ : ∃ y, F.bs[k]? = some y := ⟨_, List.getElem?_eq_getElem (by rw [← HN.out]; exact hz)⟩
      have HY := hidE hy
      have esb := HE.out k y hy
      obtain ⟨ev, q1, q2, A2, cp2, b2, o2, rfl, hc2, h5, h6⟩ := H4.out k y hy
      have H5 := hidE h5
      have H6 := hidE h6
      obtain ⟨me, hme⟩ : ∃ me, me = y.es.length := ⟨_, rfl⟩
      have HM := hidE hme
      obtain ⟨ag, hag⟩ : ∃ ag, ag = y.ag := ⟨_, rfl⟩
      have HAG := hidE hag
      rw [← hme] at esb q1 hc2
      rw [← hag] at q2
      have q1 := keep_of_below HG.out.since _ _ q1
      have q2 := keep_of_below HG.out.since _ _ q2
      have bk : (k : Int) < (n : Int) := by omega
      have bk0 : (0 : Int) ≤ (k : Int) := by omega
      clear hy hme hag h5 h6
      have BA : Hid (Below wr.heap.size wr ((wr.alloc (.cells #[.slice A2 me cp2, .int .i64 ag] 56)).alloc (.cells #[.slice none 0 0, .int .i64 ag] 74))) := (bel_alloc _ _).alloc (by simp) _
      have YB : Hid (Blk ((wr.alloc (.cells #[.slice A2 me cp2, .int .i64 ag] 56)).alloc (.cells #[.slice none 0 0, .int .i64 ag] 74)) (wr.heap.size + 1) 74 #[.slice none 0 0, .int .i64 ag]) := by
        have e := Blk.new (wr.alloc (.cells #[.slice A2 me cp2, .int .i64 ag] 56)) 74 #[.slice none 0 0, .int .i64 ag]
        simp only [World.size_alloc] at e
        exact e
      go_wp2_with fail
      clear q1 q2
      generalize ((wr.alloc (.cells #[.slice A2 me cp2, .int .i64 ag] 56)).alloc (.cells #[.slice none 0 0, .int .i64 ag] 74)) = Y at BA YB ⊢
      have GYL : Hid (w.heap.size + 2 < wr.heap.size ∧ X.heap.size ≤ wr.heap.size) := ⟨KY.out.lt, HG.out.size⟩
      generalize hgy : wr.heap.size + 1 = gy at YB ⊢
      have HGY : Hid (wr.heap.size + 1 = gy) := hgy
      clear hgy
      have KEEP : Hid (∀ u, Same (fun q => q ≠ gy) Y u → Below w.heap.size w u → RfB w X u (.slice A5 m c5) (F.bs.take k) ∧ Blk u w.heap.size 28 #[.int .u64 F.S, .int .i64 F.room, .int .i64 F.votes, .slice (some ⟨b, o, none⟩) n cap, .int .u64 F.LS, .int .i64 F.LM, .slice LA F.R lcap] ∧ Blk u (w.heap.size + 1) 32 #[.int .u64 0, .int .i64 0, .int .i64 0, .slice none 0 0, .int .u64 0, .int .i64 0, .slice none 0 0] ∧ Blk u (w.heap.size + 2) 32 #[.int .u64 F.S, .int .i64 F.room, .int .i64 F.votes, .slice A5 m c5, .int .u64 F.LS, .int .i64 F.LM, .slice LA F.R lcap]) := hidE fun u sm bb => by
        have s2 : ∀ q, q < wr.heap.size → u.heap[q]? = wr.heap[q]? := fun q hq => (sm.2 q (by have := HGY.out; omega) (by have := BA.out.size; omega)).trans (BA.out.block q hq)
        exact ⟨HG.out.keep ⟨by have := BA.out.size; have := sm.1; omega, fun q _ hq => s2 q hq⟩ bb, KX.out.of (s2 _ KX.out.lt), KR.out.of (s2 _ KR.out.lt), KY.out.of (s2 _ KY.out.lt)⟩
      have AL : Hid (∀ q, (Value.slice A5 m c5).ownBlock = some q → q < Y.heap.size) := hidE fun q hq => by
        obtain ⟨vs, _, own, _⟩ := HG.out.row
        have := (own.lt q hq).2
        have := BA.out.size
        omega
      have YX : Hid (X.heap.size ≤ Y.heap.size) := by have := GYL.out; have := BA.out.size; show X.heap.size ≤ Y.heap.size; omega
      have E0 : Hid (RfE w Y Y gy (.slice none 0 0) ag (y.es.take 0)) := ⟨bel_trans HG.out.since BA.out, ⟨Nat.le_refl _, fun _ _ _ => rfl⟩, YB.out, World.ownsRow_nil _ _ _ _, YB.out.lt, by have := GYL.out; have := HGY.out; omega⟩
      go_loopg [8, 31] me (fun gj s8 j u => ∃ (t : Nat) (A6 : Option Addr) (c6 : Nat), (gj = me - t ∧ t ≤ me ∧ RfE w Y u gy (.slice A6 t c6) ag (y.es.take t)) ∧ j = .int .i64 (t : Int))
      case atStart => exact ⟨0, none, 0, ⟨rfl, by omega, E0.out⟩, rfl⟩
      case round =>
        clear E0 YB
        obtain ⟨t, A6, c6, ⟨hgj, ht, hE2⟩, rfl⟩ := hrel
        have HJ := hidE hgj
        have HE2 := hidE hE2
        clear hgj hE2
        by_cases tz : t < me
        · obtain rfl := H5.out (by rw [← HM.out]; omega)
          obtain ⟨x, hx⟩ : ∃ x, y.es[t]? = some x := ⟨_, List.getElem?_eq_getElem (by rw [← HM.out]; exact tz)⟩
          have NX := hidE (take_nextE hx)
          have TL : Hid ((y.es.take t).length = t) := hidE (by rw [List.length_take]; have := HM.out; omega)
          obtain ⟨c1, c2, c3⟩ := H6.out t x hx
          have c1 := keep_of_below HE2.out.since _ _ c1
          have c2 := keep_of_below HE2.out.since _ _ c2
          have c3 := keep_of_below HE2.out.since _ _ c3
          obtain ⟨tk, d, f⟩ := x
          simp only at c1 c2 c3
          have bt : (t : Int) < (me : Int) := by omega
          have bt0 : (0 : Int) ≤ (t : Int) := by omega
          have KA : Hid (Blk (wr.alloc (.cells #[.string tk, .int .i64 d, .bool f] 76)) wr.heap.size 76 #[.string tk, .int .i64 d, .bool f]) := Blk.new _ _ _
          clear hx
          go_upto_region 9 with fail
          have E3 := hidE (HE2.out.alloc (.cells #[.string tk, .int .i64 d, .bool f] 76))
          clear c1 c2 c3 HE2
          generalize wr.alloc (.cells #[.string tk, .int .i64 d, .bool f] 76) = Q at KA E3 ⊢
          generalize wr.heap.size = g9 at KA ⊢
          have y0 : Q.cell? ⟨g9, 0, none⟩ = some (.string tk) := KA.out.cell 0
          have y1 : Q.cell? ⟨g9, 1, none⟩ = some (.int .i64 d) := KA.out.cell 1
          have y2 : Q.cell? ⟨g9, 2, none⟩ = some (.bool f) := KA.out.cell 2
          have y3 : Q.cell? ⟨gy, 0, none⟩ = some (.slice A6 t c6) := E3.out.yb.cell 0
          have OW : Hid (Q.ownsRow Y.heap.size 77 3 (.slice A6 t c6) t (eCells (y.es.take t))) := by
            have e := E3.out.own
            rw [TL.out] at e
            exact e
          have SZ : Hid (Y.heap.size ≤ Q.heap.size) := E3.out.same.1
          go_wp2_with (at_builtin; refine wpList_append_lies _ rfl _ _ _ rfl Y.heap.size 77 it (.agg #[.string ⟨#[]⟩, .int .i64 0, .bool false]) 3 32 Try.underlying72 HT.out.1 HT.out.2.1 HT.out.2.2.1 HT.out.2.2.2 rfl (by omega) (.slice A6 t c6) t (eCells (y.es.take t)) (by rfl) (OW.out.alloc _) ⟨Q.heap.size, 0, none⟩ 1 1 [.string tk, .int .i64 d, .bool f] (by rfl) rfl (new_ent Q 77 _ _ _) (ent_cell _ _ _) (by omega) (by unfold maxLen; omega) (by omega) (by have := SZ.out; simp; omega) _ rfl ?_; intro gq cap1 w1 hown1 hgrow hat hlt1; have st := E3.out.step (x := ⟨tk, d, f⟩) (by rw [TL.out]; exact hown1) hgrow; have st1 := st.1.cell 0; have st2 := st.1.frozen 0; rw [TL.out] at st; clear y0 y1 y2 y3)
          go_roundg (me - (t + 1))
          case measure => have := HJ.out; omega
          case rel => exact ⟨t + 1, _, _, ⟨rfl, by omega, by rw [NX.out]; exact st.2⟩, by go_num⟩
        · have bt : ¬ (t : Int) < (me : Int) := by omega
          have te : Hid (t = me) := by show t = me; omega
          have tk : Hid (y.es.take t = y.es) := hidE (List.take_of_length_le (by have := HM.out; omega))
          have NX := hidE (take_nextE HY.out)
          have TL : Hid (m = (F.bs.take k).length) := by
            obtain ⟨A7, c7, e7⟩ := HG.out.slice
            cases e7
            rfl
          have TM : Hid (m = k) := by have e := TL.out; rw [List.length_take] at e; have := HN.out; show m = k; omega
          obtain ⟨hG, kx, kr, ky⟩ := KEEP.out _ HE2.out.same HE2.out.since
          obtain ⟨vs, vl, own, vx⟩ := id hG.row
          have HVX : Hid (∀ (i : Nat) (x : Bkt) (ev : Value), (F.bs.take k)[i]? = some x → vs[i]? = some ev → Held (fun q => X.heap.size ≤ q ∧ some q ≠ (Value.slice A5 m c5).ownBlock) (fun u => EntsE u ev x.es) wr) := vx
          have HVL := hidE vl
          have OWB := hidE own
          have HGG := hidE hG
          have KX2 := hidE kx
          have KR2 := hidE kr
          have KY2 := hidE ky
          have HEN : Hid (Held (fun q => X.heap.size ≤ q ∧ some q ≠ (Value.slice A5 m c5).ownBlock) (fun u => EntsE u (.slice A6 t c6) y.es) wr) := by
            have e := HE2.out.own
            rw [tk.out] at e
            refine ents_held e fun q hq => ?_
            have ql := (e.lt q hq).1
            have := YX.out
            exact ⟨by omega, fun z => by have := AL.out q z.symm; omega⟩
          have OWM : Hid (wr.ownsRow X.heap.size 74 2 (.slice A5 m c5) m (bCells (vs.zip ((F.bs.take k).map Bkt.ag)))) := by
            have e := OWB.out
            rw [← TL.out] at e
            exact e
          have SZ : Hid (X.heap.size ≤ wr.heap.size) := HGG.out.size
          have y0 : wr.cell? ⟨gy, 0, none⟩ = some (.slice A6 t c6) := HE2.out.yb.cell 0
          have y1 : wr.cell? ⟨gy, 1, none⟩ = some (.int .i64 ag) := HE2.out.yb.cell 1
          have y3 : wr.cell? ⟨w.heap.size + 2, 3, none⟩ = some (.slice A5 m c5) := KY2.out.cell 3
          have NW : Hid (∀ r, r < X.heap.size → some r ≠ (Value.slice A5 m c5).ownBlock) := hidE fun r hr z => by have := (OWB.out.lt r z.symm).1; omega
          clear vx vl own hG kx kr ky KEEP AL HE2 NX
          have NX := hidE (take_nextE HY.out)
          go_wp2_with (at_builtin; refine wpList_append_lies _ rfl _ _ _ rfl X.heap.size 74 ib (.agg #[.slice none 0 0, .int .i64 0]) 2 32 Try.underlying29 HTB.out.1 HTB.out.2.1 HTB.out.2.2.1 HTB.out.2.2.2 rfl (by omega) (.slice A5 m c5) m (bCells (vs.zip ((F.bs.take k).map Bkt.ag))) (by rfl) (OWM.out.alloc _) ⟨wr.heap.size, 0, none⟩ 1 1 [.slice A6 t c6, .int .i64 ag] (by rfl) rfl (new_it wr 74 _ _) (by intro z hz; simp at hz; rcases hz with rfl | rfl <;> rfl) (by omega) (by unfold maxLen; have := TM.out; omega) (by have := TM.out; omega) (by have := SZ.out; simp; omega) _ rfl ?_; intro gq cap1 w1 hown1 hgrow hat hlt1; have ks := (KY2.out.alloc _).grown hgrow (NW.out _ (by have := XS.out; omega)); have ks1 := ks.cell 3; have ks2 := ks.frozen 3; clear y0 y1 y3)
          have HS := HGG.out.step (x := y) vs HVL.out OWB.out HVX.out HEN.out (by have := XS.out; omega) (by
            have e := hown1
            rw [HAG.out] at e
            rw [← TL.out]
            exact e) hgrow (hat.imp id fun z => by rw [z]; simp)
          rw [← TL.out] at HS
          have SM : Same (fun q => q < X.heap.size) wr w1 := ⟨by have := hgrow.size; simp at this; omega, fun q d hq => (hgrow.block q (by simp; omega) (NW.out q d)).trans (Below.heap_alloc _ _ _ hq)⟩
          go_roundg (n - (k + 1))
          case measure => have := HK.out; omega
          case rel =>
            refine ⟨k + 1, m + 1, some ⟨gq, 0, none⟩, cap1, ⟨rfl, by omega, ?_, ?_, ?_, ?_⟩, by go_num⟩
            · rw [NX.out]
              exact HS.keep (Same.setCell (a := ⟨w.heap.size + 2, 3, none⟩) (by show ¬ X.heap.size ≤ w.heap.size + 2; have := XS.out; omega) _) (HS.since.setCell (p := ⟨w.heap.size + 2, 3, none⟩) (by show w.heap.size ≤ w.heap.size + 2; omega) _)
            · exact (KX2.out.of (SM.2 _ (by have := XS.out; omega) KX2.out.lt)).other (a := ⟨w.heap.size + 2, 3, none⟩) (by show w.heap.size ≠ w.heap.size + 2; omega) _
            · exact (KR2.out.of (SM.2 _ (by have := XS.out; omega) KR2.out.lt)).other (a := ⟨w.heap.size + 2, 3, none⟩) (by show w.heap.size + 1 ≠ w.heap.size + 2; omega) _
            · have e := ks.set 3 (.slice (some ⟨gq, 0, none⟩) (m + 1) cap1)
              simpa using e
    · have bk : ¬ (k : Int) < (n : Int) := by omega
      have te : Hid (F.bs.take k = F.bs) := hidE (List.take_of_length_le (by have := HN.out; omega))
      have KY2 : Hid (Blk wr (w.heap.size + 2) 32 #[.int .u64 F.S, .int .i64 F.room, .int .i64 F.votes, .slice A5 m c5, .int .u64 F.LS, .int .i64 F.LM, .slice LA F.R lcap]) := KY.out
      have x0 : wr.cell? ⟨w.heap.size + 2, 0, none⟩ = some (.int .u64 F.S) := KY2.out.cell 0
      have x1 : wr.cell? ⟨w.heap.size + 2, 1, none⟩ = some (.int .i64 F.room) := KY2.out.cell 1
      have x2 : wr.cell? ⟨w.heap.size + 2, 2, none⟩ = some (.int .i64 F.votes) := KY2.out.cell 2
      have x3 : wr.cell? ⟨w.heap.size + 2, 3, none⟩ = some (.slice A5 m c5) := KY2.out.cell 3
      have x4 : wr.cell? ⟨w.heap.size + 2, 4, none⟩ = some (.int .u64 F.LS) := KY2.out.cell 4
      have x5 : wr.cell? ⟨w.heap.size + 2, 5, none⟩ = some (.int .i64 F.LM) := KY2.out.cell 5
      have x6 : wr.cell? ⟨w.heap.size + 2, 6, none⟩ = some (.slice LA F.R lcap) := KY2.out.cell 6
      have r0 : wr.cell? ⟨w.heap.size + 1, 0, none⟩ = some (.int .u64 0) := KR.out.cell 0
      have r1 : wr.cell? ⟨w.heap.size + 1, 1, none⟩ = some (.int .i64 0) := KR.out.cell 1
      have r2 : wr.cell? ⟨w.heap.size + 1, 2, none⟩ = some (.int .i64 0) := KR.out.cell 2
      have r3 : wr.cell? ⟨w.heap.size + 1, 3, none⟩ = some (.slice none 0 0) := KR.out.cell 3
      have r4 : wr.cell? ⟨w.heap.size + 1, 4, none⟩ = some (.int .u64 0) := KR.out.cell 4
      have r5 : wr.cell? ⟨w.heap.size + 1, 5, none⟩ = some (.int .i64 0) := KR.out.cell 5
      have r6 : wr.cell? ⟨w.heap.size + 1, 6, none⟩ = some (.slice none 0 0) := KR.out.cell 6
      have z0 := KR.out.frozen 0
      have z1 := KR.out.frozen 1
      have z2 := KR.out.frozen 2
      have z3 := KR.out.frozen 3
      have z4 := KR.out.frozen 4
      have z5 := KR.out.frozen 5
      have z6 := KR.out.frozen 6
      go_wp2_with fail
      refine bodyPost_ret (v := .agg #[.int .u64 F.S, .int .i64 F.room, .int .i64 F.votes, .slice A5 m c5, .int .u64 F.LS, .int .i64 F.LM, .slice LA F.R lcap]) ?_ rfl ?_
      rotate_left
      · refine ⟨_, _, _, ⟨rfl, rfl⟩, rfl, ?_, eput7_below HG.out.since (by omega) _ _ _ _ _ _ _⟩
        have hb := HG.out.bkts
        rw [te.out] at hb
        have XSS := XS.out
        have hb2 := hb.same (w' := eput7 wr (w.heap.size + 1) (.int .u64 F.S) (.int .i64 F.room) (.int .i64 F.votes) (.slice A5 m c5) (.int .u64 F.LS) (.int .i64 F.LM) (.slice LA F.R lcap)) ⟨by rw [eput7_size]; exact Nat.le_refl _, fun q d hq => eput7_heap _ _ _ _ _ _ _ _ _ q (by omega)⟩
        exact hb2.mono fun q _ d => by show w.heap.size ≤ q; omega
      have c3 := eput7_blk (t := 32) KR.out (.int .u64 F.S) (.int .i64 F.room) (.int .i64 F.votes) (.slice A5 m c5) (.int .u64 F.LS) (.int .i64 F.LM) (.slice LA F.R lcap)
      have c30 := c3.cell 0
      have c31 := c3.cell 1
      have c32 := c3.cell 2
      have c33 := c3.cell 3
      have c34 := c3.cell 4
      have c35 := c3.cell 5
      have c36 := c3.cell 6
      change (results _ _).run _ (eput7 wr (w.heap.size + 1) (.int .u64 F.S) (.int .i64 F.room) (.int .i64 F.votes) (.slice A5 m c5) (.int .u64 F.LS) (.int .i64 F.LM) (.slice LA F.R lcap)) = .ok _ (eput7 wr (w.heap.size + 1) (.int .u64 F.S) (.int .i64 F.room) (.int .i64 F.votes) (.slice A5 m c5) (.int .u64 F.LS) (.int .i64 F.LM) (.slice LA F.R lcap))
      generalize eput7 wr (w.heap.size + 1) (.int .u64 F.S) (.int .i64 F.room) (.int .i64 F.votes) (.slice A5 m c5) (.int .u64 F.LS) (.int .i64 F.LM) (.slice LA F.R lcap) = W5 at c30 c31 c32 c33 c34 c35 c36
      simp [results, Try.results8, go_sem, c30, c31, c32, c33, c34, c35, c36]
end Go.Proofs.Ytihealembikkiaa
