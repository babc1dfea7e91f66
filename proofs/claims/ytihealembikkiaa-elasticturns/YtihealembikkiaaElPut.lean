
/-
  Entries with one at a place, how often a key stands in a list, the numbers of a sketch (layer 15): what the document's and the laws' own functions answer.
-/
import Derived.Test.YtihealembikkiaaElRef
import Derived.Test.YtihealembikkiaaBlmOpen
namespace Go.Proofs.Ytihealembikkiaa
open Go.RowKit Fm Bl Lt El L2 L10 L14 Go.Deep
set_option linter.unusedVariables false
set_option maxRecDepth 20000

theorem infoRET0 : (Try.prog.info? 77).map (fun i => (i.zero, i.size, i.bytes)) = some (some (.agg #[.string ⟨#[]⟩, .int .i64 0, .bool false]), 3, 32) := by kernel_rfl
theorem infoRET : ∃ i, Try.prog.info? 77 = some i ∧ i.zero = some (.agg #[.string ⟨#[]⟩, .int .i64 0, .bool false]) ∧ i.size = 3 ∧ i.bytes = 32 := by
  obtain ⟨i, hi, hzz⟩ := Option.map_eq_some_iff.1 infoRET0
  simp only [Prod.mk.injEq] at hzz
  exact ⟨i, hi, hzz⟩
theorem infoRB0 : (Try.prog.info? 74).map (fun i => (i.zero, i.size, i.bytes)) = some (some (.agg #[.slice none 0 0, .int .i64 0]), 2, 32) := by kernel_rfl
theorem infoRB : ∃ i, Try.prog.info? 74 = some i ∧ i.zero = some (.agg #[.slice none 0 0, .int .i64 0]) ∧ i.size = 2 ∧ i.bytes = 32 := by
  obtain ⟨i, hi, hzz⟩ := Option.map_eq_some_iff.1 infoRB0
  simp only [Prod.mk.injEq] at hzz
  exact ⟨i, hi, hzz⟩
theorem take_nextE {α : Type} {l : List α} {k : Nat} {y : α} (h : l[k]? = some y) : l.take (k + 1) = l.take k ++ [y] := by
  rw [List.take_add_one, h]
  rfl
/-- Entries told: what the call made. -/
def ToldE (w : World) (l : List Ent) (e : Ending) (w' : World) : Prop := ∃ v, e = .returned v ∧ GrowE 77 w w' v l
set_option maxHeartbeats 3200000 in
theorem eput_any (w : World) (v : Value) (l : List Ent) (p : Nat) (x : Ent) (h : EntsE w v l) (hl : l.length ≤ 100000) :
    Calls Try.prog 44 #[v, .int .i64 (p : Int), .agg #[.string x.k, .int .i64 x.v, .bool x.f]] w (ToldE w (l.set p x)) := by
  obtain ⟨A, cap, b, o, rfl, hc, h3, h4⟩ := h
  have H3 := hidE h3
  have H4 := hidE h4
  obtain ⟨xs, xv, xf⟩ := x
  simp only
  obtain ⟨T, hT⟩ : ∃ T, T = l.set p ⟨xs, xv, xf⟩ := ⟨_, rfl⟩
  have HT2 := hidE hT
  have TL : T.length = l.length := by rw [hT]; simp
  obtain ⟨n, hn⟩ : ∃ n, n = l.length := ⟨_, rfl⟩
  have HN := hidE hn
  rw [← hn] at hc hl TL ⊢
  have HTL := hidE TL
  rw [← hT]
  clear h3 h4 hn TL hT
  obtain ⟨it, hi, hz0, hz1, hz2⟩ := infoRET
  have HT : Hid (Try.prog.info? 77 = some it ∧ it.zero = some (.agg #[.string ⟨#[]⟩, .int .i64 0, .bool false]) ∧ it.size = 3 ∧ it.bytes = 32) := ⟨hi, hz0, hz1, hz2⟩
  clear hi hz0 hz1 hz2
  have BX : Hid (Below w.heap.size w (w.alloc (.cells #[.string xs, .int .i64 xv, .bool xf] 77))) := bel_alloc _ _
  have KX : Hid (Blk (w.alloc (.cells #[.string xs, .int .i64 xv, .bool xf] 77)) w.heap.size 77 #[.string xs, .int .i64 xv, .bool xf]) := Blk.new _ _ _
  go_enter Try.func44, Try.ntmps44
  go_wp2_with fail
  generalize w.alloc (.cells #[.string xs, .int .i64 xv, .bool xf] 77) = u1 at BX KX ⊢
  go_loopg [7, 8] n (fun gk u i wr => ∃ (k : Nat) (ao : Option Addr) (cv : Nat), (gk = n - k ∧ k ≤ n ∧ GrowE 77 u1 wr (.slice ao k cv) (T.take k)) ∧ u = .slice ao k cv ∧ i = .int .i64 (k : Int))
  case atStart => exact ⟨0, none, 0, ⟨rfl, by omega, growE_start _ _⟩, rfl, rfl⟩
  case round =>
    obtain ⟨k, ao, cv, ⟨hg, hk, hI⟩, rfl, rfl⟩ := hrel
    have HK : Hid (gk = n - k ∧ GrowE 77 u1 wr (.slice ao k cv) (T.take k)) := ⟨hg, hI⟩
    have KW : Hid (Blk wr w.heap.size 77 #[.string xs, .int .i64 xv, .bool xf]) := KX.out.since hI.since
    have tl : (T.take k).length = k := by rw [List.length_take, HTL.out]; omega
    have OW : Hid (wr.ownsRow u1.heap.size 77 3 (.slice ao k cv) k (eCells (T.take k))) := by have := hI.own; rw [tl] at this; exact this
    have TT := hidE tl
    have hsz : u1.heap.size ≤ wr.heap.size := hI.since.size
    clear tl
    by_cases hz : k < n
    · obtain rfl := H3.out (by rw [← HN.out]; omega)
      obtain ⟨y, hy⟩ : ∃ y, l[k]? = some y := ⟨_, List.getElem?_eq_getElem (by rw [← HN.out]; exact hz)⟩
      obtain ⟨t, d, f⟩ := y
      have HY := hidE hy
      obtain ⟨c1, c2, c3⟩ := H4.out k _ hy
      have bb := bel_trans BX.out hI.since
      have c1 : wr.cell? ⟨b, o + k * 3, none⟩ = some (.string t) := keep_of_below bb _ _ c1
      have c2 : wr.cell? ⟨b, o + k * 3 + 1, none⟩ = some (.int .i64 d) := keep_of_below bb _ _ c2
      have c3 : wr.cell? ⟨b, o + k * 3 + 2, none⟩ = some (.bool f) := keep_of_below bb _ _ c3
      have d1 : wr.cell? ⟨w.heap.size, 0, none⟩ = some (.string xs) := KW.out.cell 0
      have d2 : wr.cell? ⟨w.heap.size, 1, none⟩ = some (.int .i64 xv) := KW.out.cell 1
      have d3 : wr.cell? ⟨w.heap.size, 2, none⟩ = some (.bool xf) := KW.out.cell 2
      have bk : (k : Int) < (n : Int) := by omega
      have bk0 : (0 : Int) ≤ (k : Int) := by omega
      clear hy hg hI bb
      by_cases e : k = p
      · have q : ((k : Int) == (p : Int)) = true := by rw [e]; simp
        have HE := hidE e
        clear e
        go_wp2_with (at_builtin; refine wpList_append_lies _ rfl _ _ _ rfl u1.heap.size 77 it (.agg #[.string ⟨#[]⟩, .int .i64 0, .bool false]) 3 32 Try.underlying72 HT.out.1 HT.out.2.1 HT.out.2.2.1 HT.out.2.2.2 rfl (by omega) (.slice ao k cv) k (eCells (T.take k)) (by rfl) (OW.out.alloc _) ⟨wr.heap.size, 0, none⟩ 1 1 [.string xs, .int .i64 xv, .bool xf] (by rfl) rfl (new_ent wr 77 _ _ _) (ent_cell _ _ _) (by omega) (by unfold maxLen; omega) (by omega) (by simp; omega) _ rfl ?_; intro g cap1 w1 hown1 hgrow hat hlt1)
        go_roundg (n - (k + 1))
        case measure => have := HK.out.1; omega
        case rel =>
          have nx : T[k]? = some ⟨xs, xv, xf⟩ := by
            rw [HT2.out, List.getElem?_set]
            rw [if_pos HE.out.symm, if_pos (by have := HN.out; have := HE.out; omega)]
          refine ⟨k + 1, _, _, ⟨rfl, by omega, ?_⟩, rfl, by go_num⟩
          rw [take_nextE nx]
          have e := HK.out.2.step (x := ⟨xs, xv, xf⟩) (by rw [TT.out]; exact hown1) hgrow
          rw [TT.out] at e
          exact e
      · have q : ((k : Int) == (p : Int)) = false := by simp; omega
        have HE := hidE e
        clear e
        go_wp2_with (at_builtin; refine wpList_append_lies _ rfl _ _ _ rfl u1.heap.size 77 it (.agg #[.string ⟨#[]⟩, .int .i64 0, .bool false]) 3 32 Try.underlying72 HT.out.1 HT.out.2.1 HT.out.2.2.1 HT.out.2.2.2 rfl (by omega) (.slice ao k cv) k (eCells (T.take k)) (by rfl) (OW.out.alloc _) ⟨wr.heap.size, 0, none⟩ 1 1 [.string t, .int .i64 d, .bool f] (by rfl) rfl (new_ent wr 77 _ _ _) (ent_cell _ _ _) (by omega) (by unfold maxLen; omega) (by omega) (by simp; omega) _ rfl ?_; intro g cap1 w1 hown1 hgrow hat hlt1)
        go_roundg (n - (k + 1))
        case measure => have := HK.out.1; omega
        case rel =>
          have nx : T[k]? = some ⟨t, d, f⟩ := by
            rw [HT2.out, List.getElem?_set]
            rw [if_neg (Ne.symm HE.out)]
            exact HY.out
          refine ⟨k + 1, _, _, ⟨rfl, by omega, ?_⟩, rfl, by go_num⟩
          rw [take_nextE nx]
          have e := HK.out.2.step (x := ⟨t, d, f⟩) (by rw [TT.out]; exact hown1) hgrow
          rw [TT.out] at e
          exact e
    · have bk : ¬ (k : Int) < (n : Int) := by omega
      have kn : k = T.length := by have := HTL.out; omega
      have HE : Hid (GrowE 77 u1 wr (.slice ao k cv) T) := by have e := hI; rw [kn, List.take_length] at e; rw [kn]; exact e
      clear hg hI kn
      go_wp2_with fail
      go_ret
      refine ⟨_, rfl, ?_, bel_trans BX.out HE.out.since⟩
      have e := HE.out.own
      exact ⟨e.1, by
        rcases e.2 with h | ⟨g, c, cur, h, hb, r⟩
        · exact Or.inl h
        · exact Or.inr ⟨g, c, cur, h, by have := BX.out.size; omega, r⟩⟩
set_option maxHeartbeats 1600000 in
theorem emany_any (w : World) (v : Value) (n : Nat) (Q : Nat → ByteArray) (s : ByteArray) (h : StrsAt w v n Q) (hn : n ≤ 1000000) :
    Calls Try.prog 24 #[v, .string s] w fun e w' => e = .returned (.int .i64 (cntK Q (fun k => decide (k = s)) n)) ∧ w' = w := by
  obtain ⟨A, cap, b, o, rfl, hc, h3, h4⟩ := h
  have H3 := hidE h3
  have H4 := hidE h4
  clear h3 h4
  go_enter Try.func24, Try.ntmps24
  go_wp2_with fail
  go_loop [5, 10] (fun c i => ∃ (k : Nat) (x : Int), (k ≤ n ∧ x = cntK Q (fun k => decide (k = s)) k) ∧ c = .int .i64 x ∧ i = .int .i64 (k : Int)) (fun c i => n - (intOf i).toNat)
  case atStart => exact ⟨0, 0, ⟨by omega, rfl⟩, rfl, rfl⟩
  case round =>
    obtain ⟨k, x, hk, rfl, rfl⟩ := hrel
    have HX := hidE hk.2
    have hkn := hk.1
    have x0 : 0 ≤ x := by rw [hk.2]; exact cntK_nn _ _ _
    have x1 : x ≤ (k : Int) := by rw [hk.2]; exact cntK_le _ _ _
    clear hk
    by_cases hz : k < n
    · obtain rfl := H3.out (by omega)
      have c1 := H4.out k hz
      obtain ⟨t, ht⟩ : ∃ t, t = Q k := ⟨_, rfl⟩
      rw [← ht] at c1
      have HQ := hidE ht
      clear ht
      have bk : (k : Int) < (n : Int) := by omega
      have bk0 : (0 : Int) ≤ (k : Int) := by omega
      by_cases e : t = s
      · have q : (t.toList == s.toList) = true := by rw [str_eq, decide_eq_true e]
        have HE := hidE e
        clear e
        go_wp2_with fail
        go_round
        case rel => exact ⟨k + 1, x + 1, ⟨by omega, by rw [cntK, ← HX.out, ← HQ.out, if_pos (by simpa using HE.out)]⟩, by go_num, by go_num⟩
        case measure => simp [intOf]; omega
      · have q : (t.toList == s.toList) = false := by rw [str_eq, decide_eq_false e]
        have HE := hidE e
        clear e
        go_wp2_with fail
        go_round
        case rel => exact ⟨k + 1, x, ⟨by omega, by rw [cntK, ← HX.out, ← HQ.out, if_neg (by simpa using HE.out), Int.add_zero]⟩, rfl, by go_num⟩
        case measure => simp [intOf]; omega
    · have bk : ¬ (k : Int) < (n : Int) := by omega
      have kn : k = n := by omega
      go_wp2_with fail
      go_ret
      rw [HX.out, kn]
      exact ⟨rfl, rfl⟩
/-- Are numbers those of a sketch? -/
def shapeE (n room votes rows cols : Int) : Bool := decide (1 ≤ n ∧ n ≤ 256 ∧ 1 ≤ room ∧ room ≤ 8 ∧ 1 ≤ votes ∧ votes ≤ 64 ∧ 1 ≤ rows ∧ rows ≤ 7 ∧ 1 ≤ cols ∧ cols ≤ 256)
theorem shapeE_iff (n room votes rows cols : Int) : shapeE n room votes rows cols = true ↔ (1 ≤ n ∧ n ≤ 256 ∧ 1 ≤ room ∧ room ≤ 8 ∧ 1 ≤ votes ∧ votes ≤ 64 ∧ 1 ≤ rows ∧ rows ≤ 7 ∧ 1 ≤ cols ∧ cols ≤ 256) := by unfold shapeE; exact decide_eq_true_iff
set_option maxHeartbeats 1600000 in
theorem eshape_any (a b c d e : Int) (w : World) : Calls Try.prog 22 #[.int .i64 a, .int .i64 b, .int .i64 c, .int .i64 d, .int .i64 e] w fun r w' => r = .returned (.bool (shapeE a b c d e)) ∧ w' = w := by
  by_cases ha0 : a ≥ 1
  rotate_left
  · have E : Hid (shapeE a b c d e = false) := decide_eq_false (fun h => by omega)
    go_enter Try.func22, Try.ntmps22
    go_wp2_with fail
    go_ret
    rw [E.out]
    exact ⟨rfl, rfl⟩
  by_cases ha1 : a ≤ 256
  rotate_left
  · have E : Hid (shapeE a b c d e = false) := decide_eq_false (fun h => by omega)
    go_enter Try.func22, Try.ntmps22
    go_wp2_with fail
    go_ret
    rw [E.out]
    exact ⟨rfl, rfl⟩
  by_cases hb0 : b ≥ 1
  rotate_left
  · have E : Hid (shapeE a b c d e = false) := decide_eq_false (fun h => by omega)
    go_enter Try.func22, Try.ntmps22
    go_wp2_with fail
    go_ret
    rw [E.out]
    exact ⟨rfl, rfl⟩
  by_cases hb1 : b ≤ 8
  rotate_left
  · have E : Hid (shapeE a b c d e = false) := decide_eq_false (fun h => by omega)
    go_enter Try.func22, Try.ntmps22
    go_wp2_with fail
    go_ret
    rw [E.out]
    exact ⟨rfl, rfl⟩
  by_cases hc0 : c ≥ 1
  rotate_left
  · have E : Hid (shapeE a b c d e = false) := decide_eq_false (fun h => by omega)
    go_enter Try.func22, Try.ntmps22
    go_wp2_with fail
    go_ret
    rw [E.out]
    exact ⟨rfl, rfl⟩
  by_cases hc1 : c ≤ 64
  rotate_left
  · have E : Hid (shapeE a b c d e = false) := decide_eq_false (fun h => by omega)
    go_enter Try.func22, Try.ntmps22
    go_wp2_with fail
    go_ret
    rw [E.out]
    exact ⟨rfl, rfl⟩
  by_cases hd0 : d ≥ 1
  rotate_left
  · have E : Hid (shapeE a b c d e = false) := decide_eq_false (fun h => by omega)
    go_enter Try.func22, Try.ntmps22
    go_wp2_with fail
    go_ret
    rw [E.out]
    exact ⟨rfl, rfl⟩
  by_cases hd1 : d ≤ 7
  rotate_left
  · have E : Hid (shapeE a b c d e = false) := decide_eq_false (fun h => by omega)
    go_enter Try.func22, Try.ntmps22
    go_wp2_with fail
    go_ret
    rw [E.out]
    exact ⟨rfl, rfl⟩
  by_cases he0 : e ≥ 1
  rotate_left
  · have E : Hid (shapeE a b c d e = false) := decide_eq_false (fun h => by omega)
    go_enter Try.func22, Try.ntmps22
    go_wp2_with fail
    go_ret
    rw [E.out]
    exact ⟨rfl, rfl⟩
  by_cases he1 : e ≤ 256
  rotate_left
  · have E : Hid (shapeE a b c d e = false) := decide_eq_false (fun h => by omega)
    go_enter Try.func22, Try.ntmps22
    go_wp2_with fail
    go_ret
    rw [E.out]
    exact ⟨rfl, rfl⟩
  have E : Hid (shapeE a b c d e = true) := decide_eq_true (by omega)
  go_enter Try.func22, Try.ntmps22
  go_wp2_with fail
  go_ret
  rw [E.out]
  exact ⟨rfl, rfl⟩
end Go.Proofs.Ytihealembikkiaa
