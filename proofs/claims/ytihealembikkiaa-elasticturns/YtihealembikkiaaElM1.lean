
/-
  Small calls of layer 15 (elastic): what they answer.
  Small calls of layer 15 (elastic), more of them: what they answer.
  Buckets of a call's own, each with entries of its own: copied of layer 15 (elastic).
-/
import Derived.Test.YtihealembikkiaaElRef
import Derived.Test.YtihealembikkiaaLstRead
import Derived.Lib.SliceRun
import Derived.Shelf.Abstract
import Derived.Deep.Cut
import Derived.Lib.SmallJoins
namespace Go.Proofs.Ytihealembikkiaa
open Go.RowKit Fm Bl Lt El L2 L14 Go.Deep Go.Shelf
set_option linter.unusedVariables false
set_option maxRecDepth 20000
set_option linter.unusedSimpArgs false

/-- Two cells, three cells, seven cells written. -/
def eput2 (w : World) (g : Nat) (a0 a1 : Value) : World := (w.setCell ⟨g, 0, none⟩ a0).setCell ⟨g, 1, none⟩ a1
theorem eput2_blk {w : World} {g : Nat} {t : TypeId} {x0 x1 : Value} (h : Blk w g t #[x0, x1]) (a0 a1 : Value) : Blk (eput2 w g a0 a1) g t #[a0, a1] := by
  have := (h.set 0 a0).set 1 a1
  simpa [eput2] using this
theorem eput2_same {D : Nat → Prop} {w : World} {g : Nat} (h : ¬ D g) (a0 a1 : Value) : Same D w (eput2 w g a0 a1) := (Same.setCell (a := ⟨g, 0, none⟩) h _).trans (Same.setCell (a := ⟨g, 1, none⟩) h _)
theorem eput2_below {Bd : Nat} {w wr : World} {g : Nat} (h : Below Bd w wr) (hg : Bd ≤ g) (a0 a1 : Value) : Below Bd w (eput2 wr g a0 a1) := (h.setCell (p := ⟨g, 0, none⟩) hg _).setCell (p := ⟨g, 1, none⟩) hg _
theorem eput2_heap (w : World) (g : Nat) (x y : Value) (q : Nat) (h : q ≠ g) : (eput2 w g x y).heap[q]? = w.heap[q]? := (Below.heap_setCell _ _ _ _ h).trans (Below.heap_setCell _ _ _ _ h)
def eput3 (w : World) (g : Nat) (a0 a1 a2 : Value) : World := ((w.setCell ⟨g, 0, none⟩ a0).setCell ⟨g, 1, none⟩ a1).setCell ⟨g, 2, none⟩ a2
theorem eput3_blk {w : World} {g : Nat} {t : TypeId} {x0 x1 x2 : Value} (h : Blk w g t #[x0, x1, x2]) (a0 a1 a2 : Value) : Blk (eput3 w g a0 a1 a2) g t #[a0, a1, a2] := by
  have := ((h.set 0 a0).set 1 a1).set 2 a2
  simpa [eput3] using this
theorem eput3_below {Bd : Nat} {w wr : World} {g : Nat} (h : Below Bd w wr) (hg : Bd ≤ g) (a0 a1 a2 : Value) : Below Bd w (eput3 wr g a0 a1 a2) := ((h.setCell (p := ⟨g, 0, none⟩) hg _).setCell (p := ⟨g, 1, none⟩) hg _).setCell (p := ⟨g, 2, none⟩) hg _
theorem eput3_heap (w : World) (g : Nat) (x y z : Value) (q : Nat) (h : q ≠ g) : (eput3 w g x y z).heap[q]? = w.heap[q]? := (Below.heap_setCell _ _ _ _ h).trans ((Below.heap_setCell _ _ _ _ h).trans (Below.heap_setCell _ _ _ _ h))
def eput7 (w : World) (g : Nat) (a0 a1 a2 a3 a4 a5 a6 : Value) : World := ((((((w.setCell ⟨g, 0, none⟩ a0).setCell ⟨g, 1, none⟩ a1).setCell ⟨g, 2, none⟩ a2).setCell ⟨g, 3, none⟩ a3).setCell ⟨g, 4, none⟩ a4).setCell ⟨g, 5, none⟩ a5).setCell ⟨g, 6, none⟩ a6
theorem eput7_eq (w : World) (g : Nat) (a0 a1 a2 a3 a4 a5 a6 : Value) : eput7 w g a0 a1 a2 a3 a4 a5 a6 = putCells w g 0 [a0, a1, a2, a3, a4, a5, a6] := by simp only [eput7, putCells]
theorem eput7_blk {w : World} {g : Nat} {t : TypeId} {x0 x1 x2 x3 x4 x5 x6 : Value} (h : Blk w g t #[x0, x1, x2, x3, x4, x5, x6]) (a0 a1 a2 a3 a4 a5 a6 : Value) : Blk (eput7 w g a0 a1 a2 a3 a4 a5 a6) g t #[a0, a1, a2, a3, a4, a5, a6] := by
  rw [eput7_eq]; exact putCells_blk [a0, a1, a2, a3, a4, a5, a6] [x0, x1, x2, x3, x4, x5, x6] [] w 0 rfl rfl h
theorem eput7_below {Bd : Nat} {w wr : World} {g : Nat} (h : Below Bd w wr) (hg : Bd ≤ g) (a0 a1 a2 a3 a4 a5 a6 : Value) : Below Bd w (eput7 wr g a0 a1 a2 a3 a4 a5 a6) := by
  rw [eput7_eq]; exact putCells_below hg _ _ _ h
theorem eput7_heap (w : World) (g : Nat) (a0 a1 a2 a3 a4 a5 a6 : Value) (q : Nat) (h : q ≠ g) : (eput7 w g a0 a1 a2 a3 a4 a5 a6).heap[q]? = w.heap[q]? := by
  rw [eput7_eq]; exact putCells_heap _ _ _ _ h
theorem eput7_size (w : World) (g : Nat) (a0 a1 a2 a3 a4 a5 a6 : Value) : (eput7 w g a0 a1 a2 a3 a4 a5 a6).heap.size = w.heap.size := by
  rw [eput7_eq]; exact putCells_size _ _ _
/-! ### What a cell is -/
theorem infoEB : ∃ i, Try.prog.info? 56 = some i ∧ i.zero = some (.agg #[.slice none 0 0, .int .i64 0]) ∧ i.size = 2 ∧ i.bytes = 32 := by
  have h : (Try.prog.info? 56).map (fun i => (i.zero, i.size, i.bytes)) = some (some (.agg #[.slice none 0 0, .int .i64 0]), 2, 32) := by kernel_rfl
  obtain ⟨i, hi, hzz⟩ := Option.map_eq_some_iff.1 h
  simp only [Prod.mk.injEq] at hzz
  exact ⟨i, hi, hzz⟩
theorem infoEE : ∃ i, Try.prog.info? 76 = some i ∧ i.zero = some (.agg #[.string ⟨#[]⟩, .int .i64 0, .bool false]) ∧ i.size = 3 ∧ i.bytes = 32 := by
  have h : (Try.prog.info? 76).map (fun i => (i.zero, i.size, i.bytes)) = some (some (.agg #[.string ⟨#[]⟩, .int .i64 0, .bool false]), 3, 32) := by kernel_rfl
  obtain ⟨i, hi, hzz⟩ := Option.map_eq_some_iff.1 h
  simp only [Prod.mk.injEq] at hzz
  exact ⟨i, hi, hzz⟩
/-! ### An entry as an item -/
set_option maxHeartbeats 800000 in
theorem eitem_any (w : World) (s : ByteArray) (v : Int) (f : Bool) : Calls Try.prog 33 #[.agg #[.string s, .int .i64 v, .bool f]] w fun e w' => e = .returned (.agg #[.string s, .int .i64 v]) ∧ Below w.heap.size w w' := by
  have BE : Hid (Below w.heap.size w ((w.alloc (.cells #[.string s, .int .i64 v, .bool f] 76)).alloc (.cells #[.string ⟨#[]⟩, .int .i64 0] 68))) := (bel_alloc _ _).alloc (by simp) _
  have KX : Hid (Blk ((w.alloc (.cells #[.string s, .int .i64 v, .bool f] 76)).alloc (.cells #[.string ⟨#[]⟩, .int .i64 0] 68)) w.heap.size 76 #[.string s, .int .i64 v, .bool f]) := (Blk.new _ _ _).alloc _
  have KR : Hid (Blk ((w.alloc (.cells #[.string s, .int .i64 v, .bool f] 76)).alloc (.cells #[.string ⟨#[]⟩, .int .i64 0] 68)) (w.heap.size + 1) 68 #[.string ⟨#[]⟩, .int .i64 0]) := by
    have e := Blk.new (w.alloc (.cells #[.string s, .int .i64 v, .bool f] 76)) 68 #[.string ⟨#[]⟩, .int .i64 0]
    simp only [World.size_alloc] at e
    exact e
  have x0 := KX.out.cell 0
  have x1 := KX.out.cell 1
  have r0 := KR.out.cell 0
  have r1 := KR.out.cell 1
  have z0 := KR.out.frozen 0
  have z1 := KR.out.frozen 1
  have BF : Hid (Below w.heap.size w ((w.alloc (.cells #[.string s, .int .i64 v, .bool f] 76)).alloc (.cells #[.string s, .int .i64 v] 68))) := (bel_alloc _ _).alloc (by simp) _
  have KF : Hid (Blk ((w.alloc (.cells #[.string s, .int .i64 v, .bool f] 76)).alloc (.cells #[.string s, .int .i64 v] 68)) (w.heap.size + 1) 68 #[.string s, .int .i64 v]) := by
    have e := Blk.new (w.alloc (.cells #[.string s, .int .i64 v, .bool f] 76)) 68 #[.string s, .int .i64 v]
    simp only [World.size_alloc] at e
    exact e
  go_enter Try.func33, Try.ntmps33
  go_wp2_with fail
  refine bodyPost_ret (v := .agg #[.string s, .int .i64 v]) ?_ rfl ?_
  rotate_left
  · exact ⟨rfl, BF.out⟩
  generalize ((w.alloc (.cells #[.string s, .int .i64 v, .bool f] 76)).alloc (.cells #[.string s, .int .i64 v] 68)) = W5 at KF ⊢
  have c30 := KF.out.cell 0
  have c31 := KF.out.cell 1
  simp [results, Try.results33, go_sem, c30, c31]
/-! ### The place of a key -/
set_option maxHeartbeats 800000 in
theorem efind1_any (w : World) (k : ByteArray) (v : Int) (f : Bool) (g : Nat) (s : ByteArray) (hg : w.cell? ⟨g, 0, none⟩ = some (.string s)) :
    Calls Try.prog 78 #[.agg #[.string k, .int .i64 v, .bool f], .pointer (some ⟨g, 0, none⟩)] w fun e w' => e = .returned (.bool (decide (k = s))) ∧ Below w.heap.size w w' := by
  have g0 := keep_of_below (bel_alloc w (.cells #[.string k, .int .i64 v, .bool f] 76)) _ _ hg
  have BE : Hid (Below w.heap.size w (w.alloc (.cells #[.string k, .int .i64 v, .bool f] 76))) := bel_alloc _ _
  have x0 : (w.alloc (.cells #[.string k, .int .i64 v, .bool f] 76)).cell? ⟨w.heap.size, 0, none⟩ = some (.string k) := (Blk.new _ _ _).cell 0
  clear hg
  by_cases e : k = s
  · have q : (k.toList == s.toList) = true := by rw [str_eq, decide_eq_true e]
    have E := hidE (decide_eq_true e)
    clear e
    go_enter Try.func78, Try.ntmps78
    go_wp2_with fail
    go_ret
    exact ⟨by rw [E.out]; rfl, BE.out⟩
  · have q : (k.toList == s.toList) = false := by rw [str_eq, decide_eq_false e]
    have E := hidE (decide_eq_false e)
    clear e
    go_enter Try.func78, Try.ntmps78
    go_wp2_with fail
    go_ret
    exact ⟨by rw [E.out]; rfl, BE.out⟩
set_option maxHeartbeats 1600000 in
theorem eindex_any (w : World) (ev : Value) (l : List Ent) (g : Nat) (s : ByteArray) (h : EntsE w ev l) (hl : l.length ≤ 100000) (hg : w.cell? ⟨g, 0, none⟩ = some (.string s)) :
    Calls Try.prog 77 #[ev, .func (.func 78) #[] #[.pointer (some ⟨g, 0, none⟩)]] w fun e w' => e = .returned (.int .i64 (atI l s)) ∧ Below w.heap.size w w' := by
  obtain ⟨A, cap, b, o, rfl, hc, h3, h4⟩ := h
  have H3 := hidE h3
  have H4 := hidE h4
  have HG := hidE hg
  obtain ⟨n, hn⟩ : ∃ n, n = l.length := ⟨_, rfl⟩
  have HN := hidE hn
  rw [← hn] at hc hl ⊢
  clear h3 h4 hn hg
  have eg : ∀ args w, (callFunc 78 args).run Try.prog w = .ok (.enter 78 args) w := enters_of Try.func78 (by kernel_rfl) rfl
  go_enter Try.func77, Try.ntmps77
  go_wp2_with fail
  go_loopg [5, 8] n (fun gk i5 i wr => ∃ k : Nat, (gk = n - k ∧ k ≤ n ∧ Below w.heap.size w wr ∧ ∀ j x, j < k → l[j]? = some x → x.k ≠ s) ∧ i = .int .i64 (k : Int))
  case atStart => exact ⟨0, ⟨rfl, by omega, Below.refl _ _, fun j x hj => by omega⟩, rfl⟩
  case round =>
    obtain ⟨k, ⟨hgk, hk, hB, hS⟩, rfl⟩ := hrel
    have HB := hidE hB
    have HK := hidE hgk
    have HS := hidE hS
    clear hB hgk hS
    by_cases hz : k < n
    · obtain rfl := H3.out (by rw [← HN.out]; omega)
      obtain ⟨y, hy⟩ : ∃ y, l[k]? = some y := ⟨_, List.getElem?_eq_getElem (by rw [← HN.out]; exact hz)⟩
      obtain ⟨c1, c2, c3⟩ := H4.out k y hy
      have c1 := keep_of_below HB.out _ _ c1
      have c2 := keep_of_below HB.out _ _ c2
      have c3 := keep_of_below HB.out _ _ c3
      obtain ⟨t, d, f⟩ := y
      simp only at c1 c2 c3
      have HY : Hid (l[k]? = some ⟨t, d, f⟩) := hy
      have bk : (k : Int) < (n : Int) := by omega
      have bk0 : (0 : Int) ≤ (k : Int) := by omega
      have CF := hidE (efind1_any wr t d f g s (keep_of_below HB.out _ _ HG.out))
      clear hy
      go_wp2_with fail
      go_at_fn 78
      refine CF.out.mono ?_
      rintro e u1 ⟨rfl, b1⟩
      have B1 := hidE (bel_trans HB.out b1)
      clear b1 CF c1 c2 c3
      by_cases e : t = s
      · have HE := hidE e
        rw [decide_eq_true e]
        clear e
        go_wp2_with fail
        go_ret
        rw [atI_some (atE_find HY.out HE.out HS.out)]
        exact ⟨rfl, B1.out⟩
      · have HE := hidE e
        rw [decide_eq_false e]
        clear e
        go_wp2_with fail
        go_roundg (n - (k + 1))
        case measure => have := HK.out; omega
        case rel =>
          refine ⟨k + 1, ⟨rfl, by omega, B1.out, fun j x hj hx => ?_⟩, by go_num⟩
          by_cases ej : j = k
          · subst ej
            have := HY.out.symm.trans hx
            cases this
            exact HE.out
          · exact HS.out j x (by omega) hx
    · have bk : ¬ (k : Int) < (n : Int) := by omega
      go_wp2_with fail
      go_ret
      rw [atI_none (atE_miss fun j x hx => HS.out j x (by have := HN.out; have := (List.getElem?_eq_some_iff.1 hx).1; omega) hx)]
      exact ⟨rfl, HB.out⟩
set_option maxHeartbeats 800000 in
theorem efind_any (w : World) (ev : Value) (l : List Ent) (s : ByteArray) (h : EntsE w ev l) (hl : l.length ≤ 100000) :
    Calls Try.prog 54 #[ev, .string s] w fun e w' => e = .returned (.int .i64 (atI l s)) ∧ Below w.heap.size w w' := by
  have BE : Hid (Below w.heap.size w (w.alloc (.cells #[.string s] 9))) := bel_alloc _ _
  have CF := hidE (eindex_any (w.alloc (.cells #[.string s] 9)) ev l w.heap.size s (h.keep (keep_of_below BE.out)) hl ((Blk.new _ _ _).cell 0))
  clear h
  go_enter Try.func54, Try.ntmps54
  go_wp2_with fail
  refine CF.out.mono ?_
  rintro e u1 ⟨rfl, b1⟩
  go_wp2_with fail
  go_ret
  exact ⟨rfl, bel_trans BE.out b1⟩
end Go.Proofs.Ytihealembikkiaa
namespace Go.Proofs.Ytihealembikkiaa
open Go.RowKit Fm Bl Lt El L2 L14 Go.Deep Go.Shelf
set_option linter.unusedVariables false
set_option maxRecDepth 20000
set_option linter.unusedSimpArgs false

/-- May a sketch have such numbers? -/
def fitsE (n room votes : Int) : Bool := decide (1 ≤ n ∧ n ≤ 256 ∧ 1 ≤ room ∧ room ≤ 8 ∧ 1 ≤ votes ∧ votes ≤ 64)
theorem fitsE_iff (n room votes : Int) : fitsE n room votes = true ↔ 1 ≤ n ∧ n ≤ 256 ∧ 1 ≤ room ∧ room ≤ 8 ∧ 1 ≤ votes ∧ votes ≤ 64 := by unfold fitsE; exact decide_eq_true_iff
set_option maxHeartbeats 1600000 in
theorem efits_any (n room votes : Int) (w : World) : Calls Try.prog 39 #[.int .i64 n, .int .i64 room, .int .i64 votes] w fun e w' => e = .returned (.bool (fitsE n room votes)) ∧ w' = w := by
  by_cases c0 : 1 ≤ n
  rotate_left
  · have E : Hid (fitsE n room votes = false) := decide_eq_false (by omega)
    go_enter Try.func39, Try.ntmps39
    go_wp2
    go_ret
    exact ⟨by rw [E.out]; rfl, rfl⟩
  by_cases c1 : n ≤ 256
  rotate_left
  · have E : Hid (fitsE n room votes = false) := decide_eq_false (by omega)
    go_enter Try.func39, Try.ntmps39
    go_wp2
    go_ret
    exact ⟨by rw [E.out]; rfl, rfl⟩
  by_cases c2 : 1 ≤ room
  rotate_left
  · have E : Hid (fitsE n room votes = false) := decide_eq_false (by omega)
    go_enter Try.func39, Try.ntmps39
    go_wp2
    go_ret
    exact ⟨by rw [E.out]; rfl, rfl⟩
  by_cases c3 : room ≤ 8
  rotate_left
  · have E : Hid (fitsE n room votes = false) := decide_eq_false (by omega)
    go_enter Try.func39, Try.ntmps39
    go_wp2
    go_ret
    exact ⟨by rw [E.out]; rfl, rfl⟩
  by_cases c4 : 1 ≤ votes
  rotate_left
  · have E : Hid (fitsE n room votes = false) := decide_eq_false (by omega)
    go_enter Try.func39, Try.ntmps39
    go_wp2
    go_ret
    exact ⟨by rw [E.out]; rfl, rfl⟩
  by_cases c5 : votes ≤ 64
  rotate_left
  · have E : Hid (fitsE n room votes = false) := decide_eq_false (by omega)
    go_enter Try.func39, Try.ntmps39
    go_wp2
    go_ret
    exact ⟨by rw [E.out]; rfl, rfl⟩
  have E : Hid (fitsE n room votes = true) := decide_eq_true (by omega)
  go_enter Try.func39, Try.ntmps39
  go_wp2
  go_ret
  exact ⟨by rw [E.out]; rfl, rfl⟩
theorem emore_full (w : World) (g i : Nat) (h : w.cell? ⟨g, i, none⟩ = some (.int .i64 1099511627776)) : Calls Try.prog 55 #[.pointer (some ⟨g, i, none⟩)] w fun e w' => e = .returned (.int .i64 5) ∧ w' = w := by
  go_enter Try.func55, Try.ntmps55
  go_wp2_with fail
  go_ret
  exact ⟨rfl, rfl⟩
theorem emore_ok (w : World) (g i : Nat) (v : Int) (h : w.cell? ⟨g, i, none⟩ = some (.int .i64 v)) (f : w.frozen? ⟨g, i, none⟩ = false) (v0 : 0 ≤ v) (v1 : v < 1099511627776) : Calls Try.prog 55 #[.pointer (some ⟨g, i, none⟩)] w fun e w' => e = .returned (.int .i64 0) ∧ w' = w.setCell ⟨g, i, none⟩ (.int .i64 (v + 1)) := by
  have q : (v == 1099511627776) = false := by simp; omega
  go_enter Try.func55, Try.ntmps55
  go_wp2_with fail
  go_ret
  exact ⟨rfl, rfl⟩
set_option maxHeartbeats 1600000 in
theorem ebucketOf_any (w : World) (x : Value) (F : Elk) (s : ByteArray) (h : ElAt w x F) (uS : U F.S) (hs : s.size ≤ 100000) (hn : 1 ≤ F.bs.length) (hn1 : F.bs.length ≤ 1000) :
    Calls Try.prog 53 #[x, .string s] w fun e w' => e = .returned (.int .i64 (placeN F.S s F.bs.length 0 : Int)) ∧ Below w.heap.size w w' := by
  obtain ⟨bv, rv, rfl, hb, hr⟩ := h
  obtain ⟨A, cap, b, o, rfl, hc, _⟩ := hb
  obtain ⟨n, hnn⟩ : ∃ n, n = F.bs.length := ⟨_, rfl⟩
  have BX : Hid (Below w.heap.size w (w.alloc (.cells #[.int .u64 F.S, .int .i64 F.room, .int .i64 F.votes, .slice A n cap, .int .u64 F.LS, .int .i64 F.LM, rv] 28))) := bel_alloc _ _
  have KX : Hid (Blk (w.alloc (.cells #[.int .u64 F.S, .int .i64 F.room, .int .i64 F.votes, .slice A n cap, .int .u64 F.LS, .int .i64 F.LM, rv] 28)) w.heap.size 28 #[.int .u64 F.S, .int .i64 F.room, .int .i64 F.votes, .slice A n cap, .int .u64 F.LS, .int .i64 F.LM, rv]) := Blk.new _ _ _
  rw [← hnn] at hn hn1 ⊢
  have HP : Hid (cellF (rowF F.S (0 : Nat)) s n = (placeN F.S s n 0 : Int)) := placeN_eq F.S s n 0 hn
  have ur := rowF_U F.S (0 : Nat)
  generalize hQ : rowF F.S (0 : Nat) = Q at HP ur
  have HQ := hidE hQ
  have RO : Hid (∀ w, Calls Try.prog 48 #[.int .u64 F.S, .int .i64 0] w fun e w' => e = .returned (.int .u64 Q) ∧ w' = w) := fun w => by have := row_any F.S 0 w uS (by omega); rw [HQ.out] at this; exact this
  have CE : Hid (∀ w, Calls Try.prog 76 #[.int .u64 Q, .string s, .int .i64 (n : Int)] w fun e w' => e = .returned (.int .i64 (cellF Q s n)) ∧ w' = w) := fun w => cell_any Q s n w ur (by omega) (by omega) (by omega)
  clear hr hc hnn hQ
  go_enter Try.func53, Try.ntmps53
  unfold elv
  go_wp2_with fail
  generalize w.alloc (.cells #[.int .u64 F.S, .int .i64 F.room, .int .i64 F.votes, .slice A n cap, .int .u64 F.LS, .int .i64 F.LM, rv] 28) = X at BX KX ⊢
  have x0 : X.cell? ⟨w.heap.size, 0, none⟩ = some (.int .u64 F.S) := KX.out.cell 0
  have x3 : X.cell? ⟨w.heap.size, 3, none⟩ = some (.slice A n cap) := KX.out.cell 3
  go_quiet ((first | (go_at_call 48; exact Calls.quiet_of_same (RO.out _)) | (go_at_call 76; exact Calls.quiet_of_same (CE.out _))))
  go_wp2_with fail
  go_ret
  exact ⟨ret_int HP.out, below_drewN BX.out nq⟩
/-- A key's entry; one without votes, if there is none. -/
def FoundE (l : List Ent) (s k : ByteArray) (v : Int) (f : Bool) : Prop := (atE l s = none ∧ k = ⟨#[]⟩ ∧ v = 0 ∧ f = false) ∨ ∃ i, atE l s = some i ∧ l[i]? = some ⟨k, v, f⟩
set_option maxHeartbeats 3200000 in
theorem eentry_any (w : World) (x : Value) (F : Elk) (s k : ByteArray) (v : Int) (f : Bool) (b : Bkt) (h : ElAt w x F) (uS : U F.S) (hs : s.size ≤ 100000) (hn1 : F.bs.length ≤ 1000) (hb : F.bs[placeN F.S s F.bs.length 0]? = some b) (hl : b.es.length ≤ 100000) (hf : FoundE b.es s k v f) :
    Calls Try.prog 31 #[x, .string s] w fun e w' => e = .returned (.agg #[.string k, .int .i64 v, .bool f]) ∧ Below w.heap.size w w' := by
  have hn : 1 ≤ F.bs.length := by have := (List.getElem?_eq_some_iff.1 hb).1; omega
  have PC := hidE fun u (bb : Below w.heap.size w u) => ebucketOf_any u x F s (h.keep (keep_of_below bb)) uS hs hn hn1
  obtain ⟨bv, rv, rfl, hB, hr⟩ := h
  obtain ⟨A, cap, bb, o, rfl, hc, h3, h4⟩ := hB
  obtain rfl := h3 (by omega)
  have HP := (List.getElem?_eq_some_iff.1 hb).1
  obtain ⟨ev, q1, _, q3⟩ := h4 _ b hb
  have EA := hidE fun u (z : Below w.heap.size w u) => efind_any u ev b.es s (q3.keep (keep_of_below z)) hl
  obtain ⟨A2, cp2, b2, o2, rfl, hc2, h5, h6⟩ := q3
  obtain ⟨n, hnn⟩ : ∃ n, n = F.bs.length := ⟨_, rfl⟩
  obtain ⟨m, hm⟩ : ∃ m, m = b.es.length := ⟨_, rfl⟩
  have HM := hidE hm
  rw [← hm] at EA
  rw [← hnn] at HP PC hc q1
  obtain ⟨P, hPP⟩ : ∃ P, P = placeN F.S s n 0 := ⟨_, rfl⟩
  rw [← hPP] at HP PC q1
  have pb : (P : Int) < (n : Int) := by omega
  have p0 : (0 : Int) ≤ (P : Int) := by omega
  have BX : Hid (Below w.heap.size w ((w.alloc (.cells #[.int .u64 F.S, .int .i64 F.room, .int .i64 F.votes, .slice (some ⟨bb, o, none⟩) n cap, .int .u64 F.LS, .int .i64 F.LM, rv] 28)).alloc (.cells #[.string ⟨#[]⟩, .int .i64 0, .bool false] 76))) := (bel_alloc _ _).alloc (by simp) _
  have KX : Hid (Blk ((w.alloc (.cells #[.int .u64 F.S, .int .i64 F.room, .int .i64 F.votes, .slice (some ⟨bb, o, none⟩) n cap, .int .u64 F.LS, .int .i64 F.LM, rv] 28)).alloc (.cells #[.string ⟨#[]⟩, .int .i64 0, .bool false] 76)) w.heap.size 28 #[.int .u64 F.S, .int .i64 F.room, .int .i64 F.votes, .slice (some ⟨bb, o, none⟩) n cap, .int .u64 F.LS, .int .i64 F.LM, rv]) := (Blk.new _ _ _).alloc _
  have KR : Hid (Blk ((w.alloc (.cells #[.int .u64 F.S, .int .i64 F.room, .int .i64 F.votes, .slice (some ⟨bb, o, none⟩) n cap, .int .u64 F.LS, .int .i64 F.LM, rv] 28)).alloc (.cells #[.string ⟨#[]⟩, .int .i64 0, .bool false] 76)) (w.heap.size + 1) 76 #[.string ⟨#[]⟩, .int .i64 0, .bool false]) := by
    have e := Blk.new (w.alloc (.cells #[.int .u64 F.S, .int .i64 F.room, .int .i64 F.votes, .slice (some ⟨bb, o, none⟩) n cap, .int .u64 F.LS, .int .i64 F.LM, rv] 28)) 76 #[.string ⟨#[]⟩, .int .i64 0, .bool false]
    simp only [World.size_alloc] at e
    exact e
  rw [← hm] at q1 hc2 h5
  have Q1 := hidE q1
  have H5 := hidE h5
  have H6 := hidE h6
  unfold elv at *
  rw [← hnn] at *
  clear hc hr h3 h4 hb hnn hPP q1 h5 h6 hm hc2 hs hn hn1 hl
  go_enter Try.func31, Try.ntmps31
  go_wp2_with fail
  generalize ((w.alloc (.cells #[.int .u64 F.S, .int .i64 F.room, .int .i64 F.votes, .slice (some ⟨bb, o, none⟩) n cap, .int .u64 F.LS, .int .i64 F.LM, rv] 28)).alloc (.cells #[.string ⟨#[]⟩, .int .i64 0, .bool false] 76)) = X at BX KX KR ⊢
  rcases hf with ⟨ga, rfl, rfl, rfl⟩ | ⟨i, ga, ge⟩
  · rw [atI_none ga] at EA
    clear ga
    refine letterQ ?_
    intro QQ hQQ
    have Z0 : Hid (Below X.heap.size X X.drew) := (Below.refl _ _).drew
    refine wp_region_noPanic ?_
    refine wp_region_held_drew (S := fun w2 => Below X.heap.size X w2) (by kernel_rfl) Z0.out (fun hHeld => ?_)
    clear hHeld
    generalize X.drew = q0 at Z0 ⊢
    refine wpAnyH_take (i := 0) (v := ?_) rfl (by kernel_rfl) (by kernel_rfl) (by kernel_rfl) (fun _ _ _ h => h) (Or.inl ⟨by rfl, ?_⟩) Z0.out ?_
    rotate_left
    · intro wq hSw; go_simp; first | done | with_reducible rfl
    simp only [List.getElem_toArray, List.getElem_cons_zero, Act.put, List.setIfInBounds_toArray, List.set_cons_zero, List.set_cons_succ]
    refine wpAnyH_take (i := 1) (v := ?_) rfl (by kernel_rfl) (by kernel_rfl) (by kernel_rfl) (fun _ _ _ h => h) (Or.inl ⟨by rfl, ?_⟩) Z0.out ?_
    rotate_left
    · intro wq hSw; have cl0 := (KX.out.since hSw).cell 3; go_simp; first | done | with_reducible rfl
    simp only [List.getElem_toArray, List.getElem_cons_zero, List.getElem_cons_succ, Act.put, List.setIfInBounds_toArray, List.set_cons_zero, List.set_cons_succ]
    refine wpAnyH_take (i := 2) (v := ?_) rfl (by kernel_rfl) (by kernel_rfl) (by kernel_rfl) (fun _ _ _ h => h) (Or.inl ⟨by rfl, ?_⟩) Z0.out ?_
    rotate_left
    · intro wq hSw; have cl0 := (KX.out.since hSw).cell 0; have cl1 := (KX.out.since hSw).cell 1; have cl2 := (KX.out.since hSw).cell 2; have cl3 := (KX.out.since hSw).cell 3; have cl4 := (KX.out.since hSw).cell 4; have cl5 := (KX.out.since hSw).cell 5; have cl6 := (KX.out.since hSw).cell 6; go_simp; first | done | with_reducible rfl
    simp only [List.getElem_toArray, List.getElem_cons_zero, List.getElem_cons_succ, Act.put, List.setIfInBounds_toArray, List.set_cons_zero, List.set_cons_succ]
    refine wpAnyH_take (i := 3) (v := ?_) rfl (by kernel_rfl) (by kernel_rfl) (by kernel_rfl) (fun _ _ _ h => h) (Or.inl ⟨by rfl, ?_⟩) Z0.out ?_
    rotate_left
    · intro wq hSw; go_simp; first | done | with_reducible rfl
    simp only [List.getElem_toArray, List.getElem_cons_zero, List.getElem_cons_succ, Act.put, List.setIfInBounds_toArray, List.set_cons_zero, List.set_cons_succ]
    refine wpAnyH_ready (rs := [4]) (by kernel_rfl) (by simp) ?_
    refine AllReadyH.cons rfl (fun K0 hK0 => ?_) ?_
    rotate_left
    · exact AllReadyH.nil
    refine step_func 53 #[.agg #[.int .u64 F.S, .int .i64 F.room, .int .i64 F.votes, .slice (some ⟨bb, o, none⟩) n cap, .int .u64 F.LS, .int .i64 F.LM, rv], .string s] (by rfl) rfl (by simp [Act.eval]) (fun _ _ => by kernel_rfl) ?_
    refine (PC.out _ (bel_trans BX.out Z0.out)).mono ?_
    rintro e v1 ⟨rfl, b1⟩
    have Z1 : Hid (Below X.heap.size X v1) := bel_trans Z0.out b1
    clear b1
    refine ⟨_, rfl, ?_⟩
    refine hK0.out _ _ (by exact Z1.out) (fun hHeld => ?_)
    clear hK0 K0 hHeld
    simp only [Act.put, List.setIfInBounds_toArray]
    refine wpAnyH_take (i := 5) (v := ?_) rfl (by kernel_rfl) (by kernel_rfl) (by kernel_rfl) (fun _ _ _ h => h) (Or.inl ⟨by rfl, ?_⟩) Z1.out ?_
    rotate_left
    · intro wq hSw; go_simp; first | done | with_reducible rfl
    simp only [List.getElem_toArray, List.getElem_cons_zero, List.getElem_cons_succ, Act.put, List.setIfInBounds_toArray, List.set_cons_zero, List.set_cons_succ]
    refine wpAnyH_take (i := 6) (v := ?_) rfl (by kernel_rfl) (by kernel_rfl) (by kernel_rfl) (fun _ _ _ h => h) (Or.inl ⟨by rfl, ?_⟩) Z1.out ?_
    rotate_left
    · intro wq hSw; go_simp; first | done | with_reducible rfl
    simp only [List.getElem_toArray, List.getElem_cons_zero, List.getElem_cons_succ, Act.put, List.setIfInBounds_toArray, List.set_cons_zero, List.set_cons_succ]
    refine wpAnyH_take (i := 7) (v := ?_) rfl (by kernel_rfl) (by kernel_rfl) (by kernel_rfl) (fun _ _ _ h => h) (Or.inl ⟨by rfl, ?_⟩) Z1.out ?_
    rotate_left
    · intro wq hSw; have cl0 := keep_of_below (bel_trans BX.out hSw) _ _ Q1.out; go_simp; first | done | with_reducible rfl
    simp only [List.getElem_toArray, List.getElem_cons_zero, List.getElem_cons_succ, Act.put, List.setIfInBounds_toArray, List.set_cons_zero, List.set_cons_succ]
    refine wpAnyH_take (i := 8) (v := ?_) rfl (by kernel_rfl) (by kernel_rfl) (by kernel_rfl) (fun _ _ _ h => h) (Or.inl ⟨by rfl, ?_⟩) Z1.out ?_
    rotate_left
    · intro wq hSw; go_simp; first | done | with_reducible rfl
    simp only [List.getElem_toArray, List.getElem_cons_zero, List.getElem_cons_succ, Act.put, List.setIfInBounds_toArray, List.set_cons_zero, List.set_cons_succ]
    refine wpAnyH_done (by kernel_rfl) ?_ _
    refine NoPanic.normal ?_
    refine hQQ.out _ _ ?_
    clear hQQ
    go_wp2_with fail
    refine (EA.out _ (bel_trans BX.out Z1.out)).mono ?_
    rintro e u2 ⟨rfl, b2⟩
    have B2 : Hid (Below w.heap.size w u2) := bel_trans (bel_trans BX.out Z1.out) b2
    have K2 : Hid (Blk u2 (w.heap.size + 1) 76 #[.string ⟨#[]⟩, .int .i64 0, .bool false]) := (KR.out.since Z1.out).since b2
    clear b2 BX KX KR EA PC Z1 Z0
    have r0 : u2.cell? ⟨w.heap.size + 1, 0, none⟩ = some (.string ⟨#[]⟩) := K2.out.cell 0
    have r1 : u2.cell? ⟨w.heap.size + 1, 1, none⟩ = some (.int .i64 0) := K2.out.cell 1
    have r2 : u2.cell? ⟨w.heap.size + 1, 2, none⟩ = some (.bool false) := K2.out.cell 2
    have z0 := K2.out.frozen 0
    have z1 := K2.out.frozen 1
    have z2 := K2.out.frozen 2
    go_wp2_with fail
    refine bodyPost_ret (v := .agg #[.string ⟨#[]⟩, .int .i64 0, .bool false]) ?_ rfl ?_
    rotate_left
    · exact ⟨rfl, eput3_below B2.out (by omega) _ _ _⟩
    have c3 := eput3_blk (t := 76) K2.out (.string ⟨#[]⟩) (.int .i64 0) (.bool false)
    have c30 := c3.cell 0
    have c31 := c3.cell 1
    have c32 := c3.cell 2
    change (results _ _).run _ (eput3 u2 (w.heap.size + 1) (.string ⟨#[]⟩) (.int .i64 0) (.bool false)) = .ok _ (eput3 u2 (w.heap.size + 1) (.string ⟨#[]⟩) (.int .i64 0) (.bool false))
    generalize eput3 u2 (w.heap.size + 1) (.string ⟨#[]⟩) (.int .i64 0) (.bool false) = W5 at c30 c31 c32
    simp [results, Try.results31, go_sem, c30, c31, c32]
  · rw [atI_some ga] at EA
    have il : i < m := by rw [HM.out]; exact (List.getElem?_eq_some_iff.1 ge).1
    have bi : (i : Int) < (m : Int) := by omega
    have bi0 : (0 : Int) ≤ (i : Int) := by omega
    obtain ⟨p1, p2, p3⟩ := H6.out i _ ge
    simp only at p1 p2 p3
    have P1 := hidE p1
    have P2 := hidE p2
    have P3 := hidE p3
    obtain rfl := H5.out (by omega)
    clear ga ge p1 p2 p3 H5 H6
    refine letterQ ?_
    intro QQ hQQ
    have Z0 : Hid (Below X.heap.size X X.drew) := (Below.refl _ _).drew
    refine wp_region_noPanic ?_
    refine wp_region_held_drew (S := fun w2 => Below X.heap.size X w2) (by kernel_rfl) Z0.out (fun hHeld => ?_)
    clear hHeld
    generalize X.drew = q0 at Z0 ⊢
    refine wpAnyH_take (i := 0) (v := ?_) rfl (by kernel_rfl) (by kernel_rfl) (by kernel_rfl) (fun _ _ _ h => h) (Or.inl ⟨by rfl, ?_⟩) Z0.out ?_
    rotate_left
    · intro wq hSw; go_simp; first | done | with_reducible rfl
    simp only [List.getElem_toArray, List.getElem_cons_zero, Act.put, List.setIfInBounds_toArray, List.set_cons_zero, List.set_cons_succ]
    refine wpAnyH_take (i := 1) (v := ?_) rfl (by kernel_rfl) (by kernel_rfl) (by kernel_rfl) (fun _ _ _ h => h) (Or.inl ⟨by rfl, ?_⟩) Z0.out ?_
    rotate_left
    · intro wq hSw; have cl0 := (KX.out.since hSw).cell 3; go_simp; first | done | with_reducible rfl
    simp only [List.getElem_toArray, List.getElem_cons_zero, List.getElem_cons_succ, Act.put, List.setIfInBounds_toArray, List.set_cons_zero, List.set_cons_succ]
    refine wpAnyH_take (i := 2) (v := ?_) rfl (by kernel_rfl) (by kernel_rfl) (by kernel_rfl) (fun _ _ _ h => h) (Or.inl ⟨by rfl, ?_⟩) Z0.out ?_
    rotate_left
    · intro wq hSw; have cl0 := (KX.out.since hSw).cell 0; have cl1 := (KX.out.since hSw).cell 1; have cl2 := (KX.out.since hSw).cell 2; have cl3 := (KX.out.since hSw).cell 3; have cl4 := (KX.out.since hSw).cell 4; have cl5 := (KX.out.since hSw).cell 5; have cl6 := (KX.out.since hSw).cell 6; go_simp; first | done | with_reducible rfl
    simp only [List.getElem_toArray, List.getElem_cons_zero, List.getElem_cons_succ, Act.put, List.setIfInBounds_toArray, List.set_cons_zero, List.set_cons_succ]
    refine wpAnyH_take (i := 3) (v := ?_) rfl (by kernel_rfl) (by kernel_rfl) (by kernel_rfl) (fun _ _ _ h => h) (Or.inl ⟨by rfl, ?_⟩) Z0.out ?_
    rotate_left
    · intro wq hSw; go_simp; first | done | with_reducible rfl
    simp only [List.getElem_toArray, List.getElem_cons_zero, List.getElem_cons_succ, Act.put, List.setIfInBounds_toArray, List.set_cons_zero, List.set_cons_succ]
    refine wpAnyH_ready (rs := [4]) (by kernel_rfl) (by simp) ?_
    refine AllReadyH.cons rfl (fun K0 hK0 => ?_) ?_
    rotate_left
    · exact AllReadyH.nil
    refine step_func 53 #[.agg #[.int .u64 F.S, .int .i64 F.room, .int .i64 F.votes, .slice (some ⟨bb, o, none⟩) n cap, .int .u64 F.LS, .int .i64 F.LM, rv], .string s] (by rfl) rfl (by simp [Act.eval]) (fun _ _ => by kernel_rfl) ?_
    refine (PC.out _ (bel_trans BX.out Z0.out)).mono ?_
    rintro e v1 ⟨rfl, b1⟩
    have Z1 : Hid (Below X.heap.size X v1) := bel_trans Z0.out b1
    clear b1
    refine ⟨_, rfl, ?_⟩
    refine hK0.out _ _ (by exact Z1.out) (fun hHeld => ?_)
    clear hK0 K0 hHeld
    simp only [Act.put, List.setIfInBounds_toArray]
    refine wpAnyH_take (i := 5) (v := ?_) rfl (by kernel_rfl) (by kernel_rfl) (by kernel_rfl) (fun _ _ _ h => h) (Or.inl ⟨by rfl, ?_⟩) Z1.out ?_
    rotate_left
    · intro wq hSw; go_simp; first | done | with_reducible rfl
    simp only [List.getElem_toArray, List.getElem_cons_zero, List.getElem_cons_succ, Act.put, List.setIfInBounds_toArray, List.set_cons_zero, List.set_cons_succ]
    refine wpAnyH_take (i := 6) (v := ?_) rfl (by kernel_rfl) (by kernel_rfl) (by kernel_rfl) (fun _ _ _ h => h) (Or.inl ⟨by rfl, ?_⟩) Z1.out ?_
    rotate_left
    · intro wq hSw; go_simp; first | done | with_reducible rfl
    simp only [List.getElem_toArray, List.getElem_cons_zero, List.getElem_cons_succ, Act.put, List.setIfInBounds_toArray, List.set_cons_zero, List.set_cons_succ]
    refine wpAnyH_take (i := 7) (v := ?_) rfl (by kernel_rfl) (by kernel_rfl) (by kernel_rfl) (fun _ _ _ h => h) (Or.inl ⟨by rfl, ?_⟩) Z1.out ?_
    rotate_left
    · intro wq hSw; have cl0 := keep_of_below (bel_trans BX.out hSw) _ _ Q1.out; go_simp; first | done | with_reducible rfl
    simp only [List.getElem_toArray, List.getElem_cons_zero, List.getElem_cons_succ, Act.put, List.setIfInBounds_toArray, List.set_cons_zero, List.set_cons_succ]
    refine wpAnyH_take (i := 8) (v := ?_) rfl (by kernel_rfl) (by kernel_rfl) (by kernel_rfl) (fun _ _ _ h => h) (Or.inl ⟨by rfl, ?_⟩) Z1.out ?_
    rotate_left
    · intro wq hSw; go_simp; first | done | with_reducible rfl
    simp only [List.getElem_toArray, List.getElem_cons_zero, List.getElem_cons_succ, Act.put, List.setIfInBounds_toArray, List.set_cons_zero, List.set_cons_succ]
    refine wpAnyH_done (by kernel_rfl) ?_ _
    refine NoPanic.normal ?_
    refine hQQ.out _ _ ?_
    clear hQQ
    go_wp2_with fail
    refine (EA.out _ (bel_trans BX.out Z1.out)).mono ?_
    rintro e u2 ⟨rfl, bq2⟩
    have B2 : Hid (Below w.heap.size w u2) := bel_trans (bel_trans BX.out Z1.out) bq2
    have K2 : Hid (Blk u2 (w.heap.size + 1) 76 #[.string ⟨#[]⟩, .int .i64 0, .bool false]) := (KR.out.since Z1.out).since bq2
    have p1 := keep_of_below B2.out _ _ P1.out
    have p2 := keep_of_below B2.out _ _ P2.out
    have p3 := keep_of_below B2.out _ _ P3.out
    clear bq2 BX KX KR EA PC Z1 Z0
    have r0 : u2.cell? ⟨w.heap.size + 1, 0, none⟩ = some (.string ⟨#[]⟩) := K2.out.cell 0
    have r1 : u2.cell? ⟨w.heap.size + 1, 1, none⟩ = some (.int .i64 0) := K2.out.cell 1
    have r2 : u2.cell? ⟨w.heap.size + 1, 2, none⟩ = some (.bool false) := K2.out.cell 2
    have z0 := K2.out.frozen 0
    have z1 := K2.out.frozen 1
    have z2 := K2.out.frozen 2
    go_wp2_with fail
    refine bodyPost_ret (v := .agg #[.string k, .int .i64 v, .bool f]) ?_ rfl ?_
    rotate_left
    · exact ⟨rfl, eput3_below B2.out (by omega) _ _ _⟩
    have c3 := eput3_blk (t := 76) K2.out (.string k) (.int .i64 v) (.bool f)
    have c30 := c3.cell 0
    have c31 := c3.cell 1
    have c32 := c3.cell 2
    change (results _ _).run _ (eput3 u2 (w.heap.size + 1) (.string k) (.int .i64 v) (.bool f)) = .ok _ (eput3 u2 (w.heap.size + 1) (.string k) (.int .i64 v) (.bool f))
    generalize eput3 u2 (w.heap.size + 1) (.string k) (.int .i64 v) (.bool f) = W5 at c30 c31 c32
    simp [results, Try.results31, go_sem, c30, c31, c32]
set_option maxHeartbeats 2000000 in
theorem ecloneE (w : World) (A : Option Addr) (n cap b o : Nat) (us : List Value) (hu : us.length = n * 3) (h2 : n ≤ cap) (h3 : 0 < n → A = some ⟨b, o, none⟩) (h4 : ∀ (j : Nat) (u : Value), us[j]? = some u → w.cell? ⟨b, o + j, none⟩ = some u) (h1 : ∀ u ∈ us, u.oneCell' = true) (hn : n ≤ 100000) :
    Calls Try.prog 52 #[.slice A n cap] w fun e w' => ∃ v', e = .returned v' ∧ w'.ownsRow w.heap.size 76 3 v' n us ∧ Below w.heap.size w w' := by
  obtain ⟨it, hi, hz0, hz1, hz2⟩ := infoEE
  have HT : Hid (Try.prog.info? 76 = some it ∧ it.zero = some (.agg #[.string ⟨#[]⟩, .int .i64 0, .bool false]) ∧ it.size = 3 ∧ it.bytes = 32) := ⟨hi, hz0, hz1, hz2⟩
  clear hi hz0 hz1 hz2
  have q : ∀ (w : World) (a : Option Addr) (n c n' c' : Nat), (binOp .eql 54 (.slice a n c) (.slice none n' c')).run Try.prog w = .ok (.bool a.isNone) w := fun w a n c n' c' => Lib.run_eql_slice_nil w _ _ a n c n' c' Try.underlying54
  by_cases h0 : n = 0
  · subst h0
    obtain rfl : us = [] := List.length_eq_zero_iff.1 (by omega)
    clear h3 h4 hu h1
    cases A with
    | none =>
      go_enter Try.func52, Try.ntmps52
      go_wp2
      go_ret
      exact ⟨_, rfl, World.ownsRow_nil w _ _ _, Below.refl _ _⟩
    | some a =>
      go_enter Try.func52, Try.ntmps52
      go_wp2_with (at_builtin; refine wpList_append_own _ rfl _ _ 54 rfl w.heap.size 76 it (.agg #[.string ⟨#[]⟩, .int .i64 0, .bool false]) 3 32 Try.underlying54 HT.out.1 HT.out.2.1 HT.out.2.2.1 HT.out.2.2.2 rfl (by decide) _ _ _ rfl (World.ownsRow_made w #[] 0 (Nat.le_refl _) (Nat.zero_le _) rfl) a 0 cap [] rfl rfl (by intro j u hj; simp at hj) (by intro u hu; cases hu) (by unfold maxLen; omega) (by omega) (by simp) ?_)
      intro v' w1 hown hgrow hnil
      go_wp2
      go_ret
      exact ⟨_, rfl, by simpa using hown, ((Below.refl _ w).alloc (Nat.le_refl _) _).grown hgrow (by simp) (by intro k hk; simp [Value.ownBlock] at hk; omega)⟩
  · obtain rfl := h3 (by omega)
    have A4 := hidE h4
    have HU := hidE hu
    have H1 := hidE h1
    clear h3 h4 hu h1
    go_enter Try.func52, Try.ntmps52
    go_wp2_with (at_builtin; refine wpList_append_own _ rfl _ _ 54 rfl w.heap.size 76 it (.agg #[.string ⟨#[]⟩, .int .i64 0, .bool false]) 3 32 Try.underlying54 HT.out.1 HT.out.2.1 HT.out.2.2.1 HT.out.2.2.2 rfl (by decide) _ _ _ rfl (World.ownsRow_made w #[] 0 (Nat.le_refl _) (Nat.zero_le _) rfl) ⟨b, o, none⟩ n cap us rfl ?qc1 ?qc2 ?qc3 ?qc4 ?qc5 ?qc6 ?_)
    case qc1 => exact HU.out
    case qc2 =>
      intro j u hj
      have k1 := A4.out j u hj
      rw [Addr.add_lit, ← k1]
      exact World.cell?_alloc_lt w _ _ (World.block_lt_of_cell? _ _ k1)
    case qc3 => exact H1.out
    case qc4 => unfold maxLen; omega
    case qc5 => omega
    case qc6 => simp
    intro v' w1 hown hgrow hnil
    go_wp2
    go_ret
    exact ⟨_, rfl, by simpa using hown, ((Below.refl _ w).alloc (Nat.le_refl _) _).grown hgrow (by simp) (by intro k hk; simp [Value.ownBlock] at hk; omega)⟩
set_option maxHeartbeats 2000000 in
theorem ecloneB (w : World) (A : Option Addr) (n cap b o : Nat) (us : List Value) (hu : us.length = n * 2) (h2 : n ≤ cap) (h3 : 0 < n → A = some ⟨b, o, none⟩) (h4 : ∀ (j : Nat) (u : Value), us[j]? = some u → w.cell? ⟨b, o + j, none⟩ = some u) (h1 : ∀ u ∈ us, u.oneCell' = true) (hn : n ≤ 100000) :
    Calls Try.prog 51 #[.slice A n cap] w fun e w' => ∃ v', e = .returned v' ∧ w'.ownsRow w.heap.size 56 2 v' n us ∧ Below w.heap.size w w' := by
  obtain ⟨it, hi, hz0, hz1, hz2⟩ := infoEB
  have HT : Hid (Try.prog.info? 56 = some it ∧ it.zero = some (.agg #[.slice none 0 0, .int .i64 0]) ∧ it.size = 2 ∧ it.bytes = 32) := ⟨hi, hz0, hz1, hz2⟩
  clear hi hz0 hz1 hz2
  have q : ∀ (w : World) (a : Option Addr) (n c n' c' : Nat), (binOp .eql 23 (.slice a n c) (.slice none n' c')).run Try.prog w = .ok (.bool a.isNone) w := fun w a n c n' c' => Lib.run_eql_slice_nil w _ _ a n c n' c' Try.underlying23
  by_cases h0 : n = 0
  · subst h0
    obtain rfl : us = [] := List.length_eq_zero_iff.1 (by omega)
    clear h3 h4 hu h1
    cases A with
    | none =>
      go_enter Try.func51, Try.ntmps51
      go_wp2
      go_ret
      exact ⟨_, rfl, World.ownsRow_nil w _ _ _, Below.refl _ _⟩
    | some a =>
      go_enter Try.func51, Try.ntmps51
      go_wp2_with (at_builtin; refine wpList_append_own _ rfl _ _ 23 rfl w.heap.size 56 it (.agg #[.slice none 0 0, .int .i64 0]) 2 32 Try.underlying23 HT.out.1 HT.out.2.1 HT.out.2.2.1 HT.out.2.2.2 rfl (by decide) _ _ _ rfl (World.ownsRow_made w #[] 0 (Nat.le_refl _) (Nat.zero_le _) rfl) a 0 cap [] rfl rfl (by intro j u hj; simp at hj) (by intro u hu; cases hu) (by unfold maxLen; omega) (by omega) (by simp) ?_)
      intro v' w1 hown hgrow hnil
      go_wp2
      go_ret
      exact ⟨_, rfl, by simpa using hown, ((Below.refl _ w).alloc (Nat.le_refl _) _).grown hgrow (by simp) (by intro k hk; simp [Value.ownBlock] at hk; omega)⟩
  · obtain rfl := h3 (by omega)
    have A4 := hidE h4
    have HU := hidE hu
    have H1 := hidE h1
    clear h3 h4 hu h1
    go_enter Try.func51, Try.ntmps51
    go_wp2_with (at_builtin; refine wpList_append_own _ rfl _ _ 23 rfl w.heap.size 56 it (.agg #[.slice none 0 0, .int .i64 0]) 2 32 Try.underlying23 HT.out.1 HT.out.2.1 HT.out.2.2.1 HT.out.2.2.2 rfl (by decide) _ _ _ rfl (World.ownsRow_made w #[] 0 (Nat.le_refl _) (Nat.zero_le _) rfl) ⟨b, o, none⟩ n cap us rfl ?qc1 ?qc2 ?qc3 ?qc4 ?qc5 ?qc6 ?_)
    case qc1 => exact HU.out
    case qc2 =>
      intro j u hj
      have k1 := A4.out j u hj
      rw [Addr.add_lit, ← k1]
      exact World.cell?_alloc_lt w _ _ (World.block_lt_of_cell? _ _ k1)
    case qc3 => exact H1.out
    case qc4 => unfold maxLen; omega
    case qc5 => omega
    case qc6 => simp
    intro v' w1 hown hgrow hnil
    go_wp2
    go_ret
    exact ⟨_, rfl, by simpa using hown, ((Below.refl _ w).alloc (Nat.le_refl _) _).grown hgrow (by simp) (by intro k hk; simp [Value.ownBlock] at hk; omega)⟩
/-! ### The first one of the fewest votes -/
set_option maxHeartbeats 3200000 in
theorem eweakest_any (w : World) (l : List Ent) (b o n cap : Nat) (hn : n = l.length) (n0 : 0 < n) (hl : n ≤ 100000) (hc : n ≤ cap) (h4 : ∀ (i : Nat) (e : Ent), l[i]? = some e → w.cell? ⟨b, o + i * 3, none⟩ = some (.string e.k) ∧ w.cell? ⟨b, o + i * 3 + 1, none⟩ = some (.int .i64 e.v) ∧ w.cell? ⟨b, o + i * 3 + 2, none⟩ = some (.bool e.f)) :
    Calls Try.prog 79 #[.slice (some ⟨b, o, none⟩) n cap] w fun e w' => e = .returned (.int .i64 (lowAt l : Int)) ∧ Below w.heap.size w w' := by
  have H4 := hidE h4
  have HN := hidE hn
  clear h4 hn
  go_enter Try.func79, Try.ntmps79
  go_wp2_with fail
  go_loopg [3, 4, 5, 8] n (fun gk s3 s4 s5 i wr => ∃ k q : Nat, (gk = n - k ∧ k ≤ n ∧ q = lowE l k ∧ Below w.heap.size w wr) ∧ s3 = .int .i64 (q : Int) ∧ i = .int .i64 (k : Int))
  case atStart => exact ⟨0, 0, ⟨rfl, by omega, rfl, Below.refl _ _⟩, rfl, rfl⟩
  case round =>
    obtain ⟨k, q, ⟨hgk, hk, hq, hB⟩, rfl, rfl⟩ := hrel
    have HB := hidE hB
    have HK := hidE hgk
    have HQ := hidE hq
    have ql : q < n := by rw [hq, HN.out]; exact lowE_lt (by rw [← HN.out]; exact n0) k (by rw [← HN.out]; exact hk)
    clear hB hgk hq
    by_cases hz : k < n
    · obtain ⟨y, hy⟩ : ∃ y, l[k]? = some y := ⟨_, List.getElem?_eq_getElem (by rw [← HN.out]; exact hz)⟩
      obtain ⟨z, hz2⟩ : ∃ z, l[q]? = some z := ⟨_, List.getElem?_eq_getElem (by rw [← HN.out]; exact ql)⟩
      obtain ⟨c1, c2, c3⟩ := H4.out k y hy
      have c1 := keep_of_below HB.out _ _ c1
      have c2 := keep_of_below HB.out _ _ c2
      have c3 := keep_of_below HB.out _ _ c3
      have D2 := hidE (keep_of_below HB.out _ _ (H4.out q z hz2).2.1)
      have NX : Hid (lowE l (k + 1) = if y.v < z.v then k else q) := by
        show lowE l (k + 1) = _
        rw [lowE, ← HQ.out, hy, hz2]
      clear hy hz2
      obtain ⟨t, d, f⟩ := y
      obtain ⟨t2, d2, f2⟩ := z
      simp only at c1 c2 c3 D2 NX
      have bk : (k : Int) < (n : Int) := by omega
      have bk0 : (0 : Int) ≤ (k : Int) := by omega
      have bq : (q : Int) < (n : Int) := by omega
      have bq0 : (0 : Int) ≤ (q : Int) := by omega
      have BA : Hid (Below wr.heap.size wr (wr.alloc (.cells #[.string t, .int .i64 d, .bool f] 76))) := bel_alloc _ _
      have KA : Hid (Blk (wr.alloc (.cells #[.string t, .int .i64 d, .bool f] 76)) wr.heap.size 76 #[.string t, .int .i64 d, .bool f]) := Blk.new _ _ _
      go_upto_region 5 with fail
      generalize wr.alloc (.cells #[.string t, .int .i64 d, .bool f] 76) = X at BA KA ⊢
      generalize hg : wr.heap.size = g at BA KA ⊢
      have x1 : X.cell? ⟨g, 1, none⟩ = some (.int .i64 d) := KA.out.cell 1
      have BX : Hid (Below w.heap.size w X) := by
        have b := BA.out
        rw [← hg] at b
        exact bel_trans HB.out b
      have d2x : X.cell? ⟨b, o + q * 3 + 1, none⟩ = some (.int .i64 d2) := by
        have b := BA.out
        rw [← hg] at b
        exact keep_of_below b _ _ D2.out
      clear hg c1 c2 c3 BA
      by_cases lt : d < d2
      · rw [if_pos lt] at NX
        go_quiet (fail)
        go_wp2_with fail
        go_roundg (n - (k + 1))
        case measure => have := HK.out; omega
        case rel => exact ⟨k + 1, k, ⟨rfl, by omega, NX.out.symm, below_drewN BX.out _⟩, rfl, by go_num⟩
      · rw [if_neg lt] at NX
        go_quiet (fail)
        go_wp2_with fail
        go_roundg (n - (k + 1))
        case measure => have := HK.out; omega
        case rel => exact ⟨k + 1, q, ⟨rfl, by omega, NX.out.symm, below_drewN BX.out _⟩, rfl, by go_num⟩
    · have bk : ¬ (k : Int) < (n : Int) := by omega
      have e : k = n := by omega
      have HE : Hid (q = lowAt l) := by
        show q = lowAt l
        rw [lowAt, ← HN.out, ← e]
        exact HQ.out
      clear e
      go_wp2_with fail
      go_ret
      exact ⟨by rw [← HE.out]; rfl, HB.out⟩
end Go.Proofs.Ytihealembikkiaa
namespace Go.Proofs.Ytihealembikkiaa
open Go.RowKit Fm Bl Lt El L2 L14 Go.Deep Go.Shelf
set_option linter.unusedVariables false
set_option maxRecDepth 20000
set_option linter.unusedSimpArgs false

/-- A block whose first cells are known. -/
def RowV (w : World) (g : Nat) (t : TypeId) (m : Nat) (f : Nat → Value) : Prop := ∃ cur, Blk w g t cur ∧ ∀ j, j < m → cur[j]? = some (f j)
theorem RowV.cell {w : World} {g m : Nat} {t : TypeId} {f : Nat → Value} (h : RowV w g t m f) {j : Nat} (hj : j < m) : w.cell? ⟨g, j, none⟩ = some (f j) := by
  obtain ⟨cur, h1, h2⟩ := h
  rw [h1.cell j]; exact h2 j hj
theorem RowV.frozen {w : World} {g m : Nat} {t : TypeId} {f : Nat → Value} (h : RowV w g t m f) (j : Nat) : w.frozen? ⟨g, j, none⟩ = false := by
  obtain ⟨cur, h1, h2⟩ := h
  exact h1.frozen j
theorem RowV.lt {w : World} {g m : Nat} {t : TypeId} {f : Nat → Value} (h : RowV w g t m f) : g < w.heap.size := by
  obtain ⟨cur, h1, h2⟩ := h
  exact h1.lt
theorem RowV.of {w w' : World} {g m : Nat} {t : TypeId} {f : Nat → Value} (h : RowV w g t m f) (e : w'.heap[g]? = w.heap[g]?) : RowV w' g t m f := by
  obtain ⟨cur, h1, h2⟩ := h
  exact ⟨cur, h1.of e, h2⟩
theorem RowV.congr {w : World} {g m : Nat} {t : TypeId} {f f' : Nat → Value} (h : RowV w g t m f) (e : ∀ j, j < m → f j = f' j) : RowV w g t m f' := by
  obtain ⟨cur, h1, h2⟩ := h
  exact ⟨cur, h1, fun j hj => by rw [← e j hj]; exact h2 j hj⟩
theorem RowV.set {w : World} {g m : Nat} {t : TypeId} {f : Nat → Value} (h : RowV w g t m f) (p : Nat) (x : Value) : RowV (w.setCell ⟨g, p, none⟩ x) g t m (fun j => if j = p then x else f j) := by
  obtain ⟨cur, h1, h2⟩ := h
  refine ⟨_, h1.set p x, fun i hi => ?_⟩
  have hz : i < cur.size := by
    rcases Nat.lt_or_ge i cur.size with hl | hl
    · exact hl
    · have := h2 i hi
      rw [Array.getElem?_eq_none hl] at this
      cases this
  rw [Array.getElem?_setIfInBounds]
  by_cases e : p = i
  · subst e
    simp [hz]
  · rw [if_neg e]
    show cur[i]? = some (if i = p then x else f i)
    rw [if_neg (fun (y : i = p) => e y.symm)]
    exact h2 i hi
/-- The cells of buckets: a value of entries each, and votes against them. -/
def cellB (V : Nat → Value) (AG : Nat → Int) (j : Nat) : Value := if j % 2 = 0 then V (j / 2) else .int .i64 (AG (j / 2))
def RowK (w : World) (g n : Nat) (V : Nat → Value) (AG : Nat → Int) : Prop := RowV w g 56 (n * 2) (cellB V AG)
theorem RowK.ents {w : World} {g n : Nat} {V : Nat → Value} {AG : Nat → Int} (h : RowK w g n V AG) {i : Nat} (hi : i < n) : w.cell? ⟨g, i * 2, none⟩ = some (V i) := by
  have e := RowV.cell h (j := i * 2) (by omega)
  unfold cellB at e
  rw [if_pos (by omega), show i * 2 / 2 = i by omega] at e
  exact e
theorem RowK.ag {w : World} {g n : Nat} {V : Nat → Value} {AG : Nat → Int} (h : RowK w g n V AG) {i : Nat} (hi : i < n) : w.cell? ⟨g, i * 2 + 1, none⟩ = some (.int .i64 (AG i)) := by
  have e := RowV.cell h (j := i * 2 + 1) (by omega)
  unfold cellB at e
  rw [if_neg (by omega), show (i * 2 + 1) / 2 = i by omega] at e
  exact e
theorem RowK.lt {w : World} {g n : Nat} {V : Nat → Value} {AG : Nat → Int} (h : RowK w g n V AG) : g < w.heap.size := RowV.lt h
theorem RowK.frozen {w : World} {g n : Nat} {V : Nat → Value} {AG : Nat → Int} (h : RowK w g n V AG) (i : Nat) : w.frozen? ⟨g, i, none⟩ = false := RowV.frozen h i
theorem RowK.of {w w' : World} {g n : Nat} {V : Nat → Value} {AG : Nat → Int} (h : RowK w g n V AG) (e : w'.heap[g]? = w.heap[g]?) : RowK w' g n V AG := RowV.of h e
theorem RowK.since {w w' : World} {g n : Nat} {V : Nat → Value} {AG : Nat → Int} (h : RowK w g n V AG) (b : Below w.heap.size w w') : RowK w' g n V AG := h.of (b.block g h.lt)
theorem RowK.setE {w : World} {g n : Nat} {V : Nat → Value} {AG : Nat → Int} (h : RowK w g n V AG) (i : Nat) (v : Value) : RowK (w.setCell ⟨g, i * 2, none⟩ v) g n (fun j => if j = i then v else V j) AG :=
  RowV.congr (RowV.set h (i * 2) v) fun j hj => by
    unfold cellB
    by_cases e : j = i * 2
    · subst e
      simp
    · rw [if_neg e]
      by_cases m : j % 2 = 0
      · rw [if_pos m, if_pos m]
        show V (j / 2) = if j / 2 = i then v else V (j / 2)
        rw [if_neg (by omega)]
      · rw [if_neg m, if_neg m]
theorem RowK.setA {w : World} {g n : Nat} {V : Nat → Value} {AG : Nat → Int} (h : RowK w g n V AG) (i : Nat) (x : Int) : RowK (w.setCell ⟨g, i * 2 + 1, none⟩ (.int .i64 x)) g n V (fun j => if j = i then x else AG j) :=
  RowV.congr (RowV.set h (i * 2 + 1) (.int .i64 x)) fun j hj => by
    unfold cellB
    by_cases e : j = i * 2 + 1
    · subst e
      rw [if_pos rfl, if_neg (by omega)]
      show _ = Value.int .i64 (if (i * 2 + 1) / 2 = i then x else AG _)
      rw [if_pos (by omega)]
    · rw [if_neg e]
      by_cases m : j % 2 = 0
      · rw [if_pos m, if_pos m]
      · rw [if_neg m, if_neg m]
        show _ = Value.int .i64 (if j / 2 = i then x else AG (j / 2))
        rw [if_neg (by omega)]
/-- The cells of entries, one by one. -/
theorem ents_cells {w : World} {l : List Ent} {b o : Nat} (h : ∀ (i : Nat) (e : Ent), l[i]? = some e → w.cell? ⟨b, o + i * 3, none⟩ = some (.string e.k) ∧ w.cell? ⟨b, o + i * 3 + 1, none⟩ = some (.int .i64 e.v) ∧ w.cell? ⟨b, o + i * 3 + 2, none⟩ = some (.bool e.f)) : ∀ (j : Nat) (u : Value), (eCells l)[j]? = some u → w.cell? ⟨b, o + j, none⟩ = some u := by
  intro j u hj
  have hl : j < l.length * 3 := by
    have := (List.getElem?_eq_some_iff.1 hj).1
    rw [eCells_len] at this
    exact this
  obtain ⟨x, hx⟩ : ∃ x, l[j / 3]? = some x := ⟨_, List.getElem?_eq_getElem (by omega)⟩
  obtain ⟨g1, g2, g3⟩ := eCells_get l _ _ hx
  obtain ⟨k1, k2, k3⟩ := h _ _ hx
  rcases (show j % 3 = 0 ∨ j % 3 = 1 ∨ j % 3 = 2 by omega) with m | m | m
  · rw [show j / 3 * 3 = j by omega] at g1 k1
    rw [g1] at hj
    rw [← hj, ← k1]
  · rw [show j / 3 * 3 + 1 = j by omega] at g2
    rw [show o + j / 3 * 3 + 1 = o + j by omega] at k2
    rw [g2] at hj
    rw [← hj, ← k2]
  · rw [show j / 3 * 3 + 2 = j by omega] at g3
    rw [show o + j / 3 * 3 + 2 = o + j by omega] at k3
    rw [g3] at hj
    rw [← hj, ← k3]
theorem eCells_one : ∀ (l : List Ent), ∀ u ∈ eCells l, u.oneCell' = true
  | [], u, h => by cases h
  | x :: r, u, h => by
    rw [eCells] at h
    rcases List.mem_cons.1 h with rfl | h
    · rfl
    · rcases List.mem_cons.1 h with rfl | h
      · rfl
      · rcases List.mem_cons.1 h with rfl | h
        · rfl
        · exact eCells_one r u h
theorem ecloneE_any (w : World) (v : Value) (l : List Ent) (h : EntsE w v l) (hn : l.length ≤ 100000) : Calls Try.prog 52 #[v] w fun e w' => ∃ v', e = .returned v' ∧ w'.ownsRow w.heap.size 76 3 v' l.length (eCells l) ∧ Below w.heap.size w w' := by
  obtain ⟨A, cap, b, o, rfl, h2, h3, h4⟩ := h
  exact ecloneE w A l.length cap b o (eCells l) (eCells_len l) h2 h3 (ents_cells h4) (eCells_one l) hn
/-- Is it the block of the p-th, once that one is copied? -/
def ownP (V : Nat → Value) (p k : Nat) : Option Nat := if p < k then (V p).ownBlock else none
/-- What the loop of copied keeps: the row, what is copied, what is not. -/
structure CopB (w0 wr : World) (g n p k : Nat) (bs : List Bkt) (V : Nat → Value) (AG : Nat → Int) : Prop where
  since : Below w0.heap.size w0 wr
  base : w0.heap.size ≤ g
  row : RowK wr g n V AG
  ags : ∀ (i : Nat) (x : Bkt), bs[i]? = some x → AG i = x.ag
  old : ∀ (i : Nat) (x : Bkt), k ≤ i → bs[i]? = some x → Held (fun q => q < w0.heap.size) (fun u => EntsE u (V i) x.es) wr
  new : ∀ (i : Nat) (x : Bkt), i < k → i ≠ p → bs[i]? = some x → Held (fun q => w0.heap.size ≤ q ∧ q ≠ g ∧ some q ≠ ownP V p k) (fun u => EntsE u (V i) x.es) wr
  own : ∀ (x : Bkt), p < k → bs[p]? = some x → wr.ownsRow w0.heap.size 76 3 (V p) x.es.length (eCells x.es) ∧ (V p).ownBlock ≠ some g
theorem own_le {w : World} {base base' size n : Nat} {e : TypeId} {v : Value} {xs : List Value} (h : w.ownsRow base e size v n xs) (hb : base' ≤ base) : w.ownsRow base' e size v n xs := by
  refine ⟨h.1, ?_⟩
  rcases h.2 with q | ⟨g, cap, cur, h1, h2, r⟩
  · exact Or.inl q
  · exact Or.inr ⟨g, cap, cur, h1, by omega, r⟩
theorem own_slice {w : World} {base size n : Nat} {e : TypeId} {v : Value} {xs : List Value} (h : w.ownsRow base e size v n xs) : ∃ A c, v = .slice A n c := by
  rcases h.2 with ⟨q, z⟩ | ⟨g, cap, cur, h1, r⟩
  · exact ⟨_, _, by rw [q, z]⟩
  · exact ⟨_, _, h1⟩
theorem ents_held {w : World} {N : Nat} {t : TypeId} {v : Value} {l : List Ent} {D : Nat → Prop} (h : w.ownsRow N t 3 v l.length (eCells l)) (d : ∀ q, v.ownBlock = some q → D q) : Held D (fun u => EntsE u v l) w := fun u e =>
  owns_ents (owns_at h fun g hg => e.2 g (d g hg) (h.lt g hg).2)
theorem CopB.step {w0 wr w1 : World} {g n p k : Nat} {bs : List Bkt} {V : Nat → Value} {AG : Nat → Int} {x : Bkt} {v' : Value} (h : CopB w0 wr g n p k bs V AG) (hx : bs[k]? = some x) (hown : w1.ownsRow wr.heap.size 76 3 v' x.es.length (eCells x.es)) (hb : Below wr.heap.size wr w1) :
    CopB w0 (w1.setCell ⟨g, k * 2, none⟩ v') g n p (k + 1) bs (fun j => if j = k then v' else V j) AG := by
  have gl := h.row.lt
  have sz := h.since.size
  have low : ∀ q, v'.ownBlock = some q → wr.heap.size ≤ q := fun q hq => (hown.lt q hq).1
  have S1 : ∀ {D : Nat → Prop}, ¬ D g → Same D w1 (w1.setCell ⟨g, k * 2, none⟩ v') := fun d => Same.setCell (a := ⟨g, k * 2, none⟩) d _
  refine ⟨(bel_trans h.since hb).setCell (p := ⟨g, k * 2, none⟩) h.base _, h.base, (h.row.since hb).setE k v', h.ags, fun i y hi hy => ?_, fun i y hi ip hy => ?_, fun y hp hy => ?_⟩
  · have := h.old i y (by omega) hy
    rw [if_neg (show i ≠ k by omega)]
    exact (this.since hb).same (S1 (by have := h.base; omega))
  · by_cases ik : i = k
    · subst ik
      rw [hx] at hy
      cases hy
      simp only [if_pos]
      refine Held.same (ents_held hown fun q hq => ⟨by have := low q hq; omega, by have := low q hq; omega, ?_⟩) (S1 fun z => z.2.1 rfl)
      unfold ownP
      split
      · rename_i pk
        show some q ≠ (if p = i then v' else V p).ownBlock
        rw [if_neg (show p ≠ i by omega)]
        intro z
        have pl := (List.getElem?_eq_some_iff.1 hx).1
        obtain ⟨yp, hyp⟩ : ∃ y, bs[p]? = some y := ⟨_, List.getElem?_eq_getElem (show p < bs.length by omega)⟩
        have := ((h.own yp (by omega) hyp).1.lt q z.symm).2
        have := low q hq
        omega
      · exact fun z => by cases z
    · rw [if_neg ik]
      refine Held.same ((h.new i y (by omega) ip hy).mono ?_ |>.since hb) (S1 (D := fun q => w0.heap.size ≤ q ∧ q ≠ g ∧ some q ≠ ownP (fun j => if j = k then v' else V j) p (k + 1)) fun z => z.2.1 rfl)
      rintro q ql ⟨d1, d2, d3⟩
      refine ⟨d1, d2, ?_⟩
      unfold ownP at d3 ⊢
      by_cases pk : p = k
      · rw [if_pos (by omega)]
        show some q ≠ (if p = k then v' else V p).ownBlock
        rw [if_pos pk]
        intro z
        have := low q z.symm
        omega
      · show some q ≠ if p < k + 1 then (if p = k then v' else V p).ownBlock else none
        rw [if_neg pk]
        by_cases pl : p < k
        · rw [if_pos pl] at d3
          rw [if_pos (by omega)]
          exact d3
        · rw [if_neg (by omega)]
          exact fun z => by cases z
  · by_cases pk : p = k
    · subst pk
      rw [hx] at hy
      cases hy
      simp only [if_pos]
      have ne : v'.ownBlock ≠ some g := fun z => by have := low g z; omega
      refine ⟨owns_at (own_le hown sz) fun q hq => Below.heap_setCell _ _ _ _ (fun (z : q = g) => ne (by rw [hq, z])), ne⟩
    · rw [if_neg pk]
      obtain ⟨o1, o2⟩ := h.own y (by omega) hy
      refine ⟨owns_at o1 fun q hq => ?_, o2⟩
      rw [Below.heap_setCell _ _ _ _ (fun (z : q = g) => o2 (by rw [hq, z]))]
      exact hb.block q (o1.lt q hq).2
/-- Buckets that the call copied; those of the p-th are known. -/
def CopiedE (w : World) (n p : Nat) (bs : List Bkt) (e : Ending) (w' : World) : Prop := ∃ g cap V AG, e = .returned (.slice (some ⟨g, 0, none⟩) n cap) ∧ n ≤ cap ∧ CopB w w' g n p n bs V AG
set_option maxHeartbeats 3200000 in
theorem ecopied_any (w : World) (v : Value) (bs : List Bkt) (n p : Nat) (h : BktsE w v bs) (hn : n = bs.length) (n0 : 0 < n) (n1 : n ≤ 1000) (he : ∀ (i : Nat) (x : Bkt), bs[i]? = some x → x.es.length ≤ 1000) : Calls Try.prog 28 #[v] w (CopiedE w n p bs) := by
  obtain ⟨A, cap, b, o, rfl, hc, h3, h4⟩ := h
  obtain rfl := h3 (by omega)
  have hex : ∀ i, ∃ ev, ∀ (x : Bkt), bs[i]? = some x → w.cell? ⟨b, o + i * 2, none⟩ = some ev ∧ w.cell? ⟨b, o + i * 2 + 1, none⟩ = some (.int .i64 x.ag) ∧ EntsE w ev x.es := fun i => by
    by_cases hi : i < bs.length
    · obtain ⟨x, hx⟩ : ∃ x, bs[i]? = some x := ⟨_, List.getElem?_eq_getElem hi⟩
      obtain ⟨ev, q⟩ := h4 i x hx
      exact ⟨ev, fun y hy => by rw [hx] at hy; cases hy; exact q⟩
    · exact ⟨undef, fun x hx => absurd (List.getElem?_eq_some_iff.1 hx).1 hi⟩
  obtain ⟨V, hV⟩ := Classical.axiomOfChoice hex
  obtain ⟨AG, hAG⟩ : ∃ AG : Nat → Int, ∀ i x, bs[i]? = some x → AG i = x.ag := ⟨fun i => match bs[i]? with | some x => x.ag | none => 0, fun i x hx => by simp only [hx]⟩
  have HV := hidE hV
  have HAG := hidE hAG
  have HN := hidE hn
  have HE := hidE he
  have CC := hidE (ecloneB w (some ⟨b, o, none⟩) n cap b o ((List.range (n * 2)).map (cellB V AG)) (by simp) (by omega) (fun _ => rfl) (fun j u hj => by
    have jl : j < n * 2 := by
      have := (List.getElem?_eq_some_iff.1 hj).1
      simpa using this
    have e : u = cellB V AG j := by
      rw [List.getElem?_map, List.getElem?_range jl] at hj
      simpa using hj.symm
    obtain ⟨x, hx⟩ : ∃ x, bs[j / 2]? = some x := ⟨_, List.getElem?_eq_getElem (by omega)⟩
    obtain ⟨k1, k2, _⟩ := HV.out _ x hx
    rw [e]
    unfold cellB
    by_cases m : j % 2 = 0
    · rw [if_pos m, ← k1, show j / 2 * 2 = j by omega]
    · rw [if_neg m, HAG.out _ x hx, ← k2, show o + j / 2 * 2 + 1 = o + j by omega]) (fun u hu => by
    obtain ⟨j, hj, rfl⟩ := List.mem_map.1 hu
    unfold cellB
    by_cases m : j % 2 = 0
    · rw [if_pos m]
      have jl : j < n * 2 := by simpa using hj
      obtain ⟨x, hx⟩ : ∃ x, bs[j / 2]? = some x := ⟨_, List.getElem?_eq_getElem (by omega)⟩
      obtain ⟨_, _, A2, c2, b2, o2, e2, _⟩ := HV.out _ x hx
      rw [e2]
      rfl
    · rw [if_neg m]
      rfl) (by omega))
  rw [← hn] at hc ⊢
  clear h3 h4 hex hV hAG hn he
  go_enter Try.func28, Try.ntmps28
  go_wp2_with fail
  refine CC.out.mono ?_
  rintro e u1 ⟨v', rfl, hown, b1⟩
  rcases hown.2 with ⟨_, z⟩ | ⟨g, cp, cur, rfl, hbg, hg, hcp, _, hsz, hx⟩
  · omega
  have C0 : Hid (CopB w u1 g n p 0 bs V AG) := by
    have row : RowK u1 g n V AG := by
      refine ⟨cur, hg, fun j hj => ?_⟩
      have e : ((List.range (n * 2)).map (cellB V AG))[j]? = some (cellB V AG j) := by
        rw [List.getElem?_map, List.getElem?_range hj]
        rfl
      rw [← hx, List.getElem?_take] at e
      rw [if_pos hj, Array.getElem?_toList] at e
      exact e
    exact ⟨b1, hbg, row, HAG.out, fun i x _ hx => fun u e => (HV.out i x hx).2.2.keep (Same.keep ⟨by have := b1.size; have := e.1; omega, fun q _ hq => by rw [e.2 q hq (by have := b1.size; omega)]; exact b1.block q hq⟩), fun i x hi => by omega, fun x hp => by omega⟩
  have HC := hidE hcp
  clear hown hbg hg hcp hsz hx b1 CC
  go_wp2_with fail
  go_loopg [4, 9] n (fun gk s4 i wr => ∃ (k : Nat) (V : Nat → Value), (gk = n - k ∧ k ≤ n ∧ CopB w wr g n p k bs V AG) ∧ i = .int .i64 (k : Int))
  case atStart => exact ⟨0, V, ⟨rfl, by omega, C0.out⟩, rfl⟩
  case round =>
    clear C0 HV
    clear V
    obtain ⟨k, V, ⟨hgk, hk, hB⟩, rfl⟩ := hrel
    have HB := hidE hB
    have HK := hidE hgk
    clear hB hgk
    by_cases hz : k < n
    · obtain ⟨x, hx⟩ : ∃ x, bs[k]? = some x := ⟨_, List.getElem?_eq_getElem (by rw [← HN.out]; exact hz)⟩
      have bk : (k : Int) < (n : Int) := by omega
      have bk0 : (0 : Int) ≤ (k : Int) := by omega
      have x0 := HB.out.row.ents hz
      have CL := hidE (ecloneE_any wr (V k) x.es (HB.out.old k x (Nat.le_refl _) hx).at (by have := HE.out k x hx; omega))
      have HX := hidE hx
      clear hx
      generalize hvk : V k = vk at x0 CL
      clear hvk
      go_wp2_with fail
      refine CL.out.mono ?_
      rintro e u2 ⟨v2, rfl, hown, b2⟩
      obtain ⟨A2, c2, rfl⟩ := own_slice hown
      have C2 := hidE (HB.out.step HX.out hown b2)
      have f2 : u2.frozen? ⟨g, k * 2, none⟩ = false := (HB.out.row.since b2).frozen _
      have y2 : u2.cell? ⟨g, k * 2, none⟩ = some vk := keep_of_below b2 _ _ x0
      clear hown b2 CL x0
      go_wp2_with fail
      go_roundg (n - (k + 1))
      case measure => have := HK.out; omega
      case rel => exact ⟨k + 1, _, ⟨rfl, by omega, C2.out⟩, by go_num⟩
    · have bk : ¬ (k : Int) < (n : Int) := by omega
      have e : k = n := by omega
      have HE2 := hidE e
      clear e
      go_wp2_with fail
      go_ret
      exact ⟨g, cp, V, AG, rfl, HC.out, by have := HB.out; rw [HE2.out] at this; exact this⟩
end Go.Proofs.Ytihealembikkiaa
