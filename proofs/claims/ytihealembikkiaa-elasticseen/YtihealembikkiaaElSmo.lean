
/-
  Small calls of layer 15 (elastic): what they answer.
-/
import Derived.Test.YtihealembikkiaaElRef
import Derived.Test.YtihealembikkiaaLstRead
import Derived.Lib.SliceRun
import Derived.Shelf.Abstract
namespace Go.Proofs.Ytihealembikkiaa
open Go.RowKit Fm Bl Lt El L2 L14 Go.Deep Go.Shelf
set_option linter.unusedVariables false
set_option maxRecDepth 20000
set_option linter.unusedSimpArgs false

/-- Two cells, three cells, seven cells written. -/
def eput2 (w : World) (g : Nat) (a0 a1 : Value) : World := (w.setCell ⟨g, 0, none⟩ a0).setCell ⟨g, 1, none⟩ a1
theorem eput2_blk {w : World} {g : Nat} {t : TypeId} {x0 x1 : Value} (h : Blk w g t #[x0, x1]) (a0 a1 : Value) : Blk (eput2 w g a0 a1) g t #[a0, a1] := by
  have := (h.set 0 a0).set 1 a1
  simpa [eput2] using this
theorem eput2_same {D : Nat → Prop} {w : World} {g : Nat} (h : ¬ D g) (a0 a1 : Value) : Same D w (eput2 w g a0 a1) := (Same.setCell (a := ⟨g, 0, none⟩) h _).trans (Same.setCell (a := ⟨g, 1, none⟩) h _)
theorem eput2_below {Bd : Nat} {w wr : World} {g : Nat} (h : Below Bd w wr) (hg : Bd ≤ g) (a0 a1 : Value) : Below Bd w (eput2 wr g a0 a1) := (h.setCell (p := ⟨g, 0, none⟩) hg _).setCell (p := ⟨g, 1, none⟩) hg _
theorem eput2_heap (w : World) (g : Nat) (x y : Value) (q : Nat) (h : q ≠ g) : (eput2 w g x y).heap[q]? = w.heap[q]? := (Below.heap_setCell _ _ _ _ h).trans (Below.heap_setCell _ _ _ _ h)
def eput3 (w : World) (g : Nat) (a0 a1 a2 : Value) : World := ((w.setCell ⟨g, 0, none⟩ a0).setCell ⟨g, 1, none⟩ a1).setCell ⟨g, 2, none⟩ a2
theorem eput3_blk {w : World} {g : Nat} {t : TypeId} {x0 x1 x2 : Value} (h : Blk w g t #[x0, x1, x2]) (a0 a1 a2 : Value) : Blk (eput3 w g a0 a1 a2) g t #[a0, a1, a2] := by
  have := ((h.set 0 a0).set 1 a1).set 2 a2
  simpa [eput3] using this
theorem eput3_below {Bd : Nat} {w wr : World} {g : Nat} (h : Below Bd w wr) (hg : Bd ≤ g) (a0 a1 a2 : Value) : Below Bd w (eput3 wr g a0 a1 a2) := ((h.setCell (p := ⟨g, 0, none⟩) hg _).setCell (p := ⟨g, 1, none⟩) hg _).setCell (p := ⟨g, 2, none⟩) hg _
theorem eput3_heap (w : World) (g : Nat) (x y z : Value) (q : Nat) (h : q ≠ g) : (eput3 w g x y z).heap[q]? = w.heap[q]? := (Below.heap_setCell _ _ _ _ h).trans ((Below.heap_setCell _ _ _ _ h).trans (Below.heap_setCell _ _ _ _ h))
def eput7 (w : World) (g : Nat) (a0 a1 a2 a3 a4 a5 a6 : Value) : World := ((((((w.setCell ⟨g, 0, none⟩ a0).setCell ⟨g, 1, none⟩ a1).setCell ⟨g, 2, none⟩ a2).setCell ⟨g, 3, none⟩ a3).setCell ⟨g, 4, none⟩ a4).setCell ⟨g, 5, none⟩ a5).setCell ⟨g, 6, none⟩ a6
theorem eput7_eq (w : World) (g : Nat) (a0 a1 a2 a3 a4 a5 a6 : Value) : eput7 w g a0 a1 a2 a3 a4 a5 a6 = putCells w g 0 [a0, a1, a2, a3, a4, a5, a6] := by simp only [eput7, putCells]
theorem eput7_blk {w : World} {g : Nat} {t : TypeId} {x0 x1 x2 x3 x4 x5 x6 : Value} (h : Blk w g t #[x0, x1, x2, x3, x4, x5, x6]) (a0 a1 a2 a3 a4 a5 a6 : Value) : Blk (eput7 w g a0 a1 a2 a3 a4 a5 a6) g t #[a0, a1, a2, a3, a4, a5, a6] := by
  rw [eput7_eq]; exact putCells_blk [a0, a1, a2, a3, a4, a5, a6] [x0, x1, x2, x3, x4, x5, x6] [] w 0 rfl rfl h
theorem eput7_below {Bd : Nat} {w wr : World} {g : Nat} (h : Below Bd w wr) (hg : Bd ≤ g) (a0 a1 a2 a3 a4 a5 a6 : Value) : Below Bd w (eput7 wr g a0 a1 a2 a3 a4 a5 a6) := by
  rw [eput7_eq]; exact putCells_below hg _ _ _ h
theorem eput7_heap (w : World) (g : Nat) (a0 a1 a2 a3 a4 a5 a6 : Value) (q : Nat) (h : q ≠ g) : (eput7 w g a0 a1 a2 a3 a4 a5 a6).heap[q]? = w.heap[q]? := by
  rw [eput7_eq]; exact putCells_heap _ _ _ _ h
theorem eput7_size (w : World) (g : Nat) (a0 a1 a2 a3 a4 a5 a6 : Value) : (eput7 w g a0 a1 a2 a3 a4 a5 a6).heap.size = w.heap.size := by
  rw [eput7_eq]; exact putCells_size _ _ _
/-! ### What a cell is -/
theorem infoEB : ∃ i, Try.prog.info? 56 = some i ∧ i.zero = some (.agg #[.slice none 0 0, .int .i64 0]) ∧ i.size = 2 ∧ i.bytes = 32 := by
  have h : (Try.prog.info? 56).map (fun i => (i.zero, i.size, i.bytes)) = some (some (.agg #[.slice none 0 0, .int .i64 0]), 2, 32) := by kernel_rfl
  obtain ⟨i, hi, hzz⟩ := Option.map_eq_some_iff.1 h
  simp only [Prod.mk.injEq] at hzz
  exact ⟨i, hi, hzz⟩
theorem infoEE : ∃ i, Try.prog.info? 76 = some i ∧ i.zero = some (.agg #[.string ⟨#[]⟩, .int .i64 0, .bool false]) ∧ i.size = 3 ∧ i.bytes = 32 := by
  have h : (Try.prog.info? 76).map (fun i => (i.zero, i.size, i.bytes)) = some (some (.agg #[.string ⟨#[]⟩, .int .i64 0, .bool false]), 3, 32) := by kernel_rfl
  obtain ⟨i, hi, hzz⟩ := Option.map_eq_some_iff.1 h
  simp only [Prod.mk.injEq] at hzz
  exact ⟨i, hi, hzz⟩
/-! ### An entry as an item -/
set_option maxHeartbeats 800000 in
theorem eitem_any (w : World) (s : ByteArray) (v : Int) (f : Bool) : Calls Try.prog 33 #[.agg #[.string s, .int .i64 v, .bool f]] w fun e w' => e = .returned (.agg #[.string s, .int .i64 v]) ∧ Below w.heap.size w w' := by
  have BE : Hid (Below w.heap.size w ((w.alloc (.cells #[.string s, .int .i64 v, .bool f] 76)).alloc (.cells #[.string ⟨#[]⟩, .int .i64 0] 68))) := (bel_alloc _ _).alloc (by simp) _
  have KX : Hid (Blk ((w.alloc (.cells #[.string s, .int .i64 v, .bool f] 76)).alloc (.cells #[.string ⟨#[]⟩, .int .i64 0] 68)) w.heap.size 76 #[.string s, .int .i64 v, .bool f]) := (Blk.new _ _ _).alloc _
  have KR : Hid (Blk ((w.alloc (.cells #[.string s, .int .i64 v, .bool f] 76)).alloc (.cells #[.string ⟨#[]⟩, .int .i64 0] 68)) (w.heap.size + 1) 68 #[.string ⟨#[]⟩, .int .i64 0]) := by
    have e := Blk.new (w.alloc (.cells #[.string s, .int .i64 v, .bool f] 76)) 68 #[.string ⟨#[]⟩, .int .i64 0]
    simp only [World.size_alloc] at e
    exact e
  have x0 := KX.out.cell 0
  have x1 := KX.out.cell 1
  have r0 := KR.out.cell 0
  have r1 := KR.out.cell 1
  have z0 := KR.out.frozen 0
  have z1 := KR.out.frozen 1
  have BF : Hid (Below w.heap.size w ((w.alloc (.cells #[.string s, .int .i64 v, .bool f] 76)).alloc (.cells #[.string s, .int .i64 v] 68))) := (bel_alloc _ _).alloc (by simp) _
  have KF : Hid (Blk ((w.alloc (.cells #[.string s, .int .i64 v, .bool f] 76)).alloc (.cells #[.string s, .int .i64 v] 68)) (w.heap.size + 1) 68 #[.string s, .int .i64 v]) := by
    have e := Blk.new (w.alloc (.cells #[.string s, .int .i64 v, .bool f] 76)) 68 #[.string s, .int .i64 v]
    simp only [World.size_alloc] at e
    exact e
  go_enter Try.func33, Try.ntmps33
  go_wp2_with fail
  refine bodyPost_ret (v := .agg #[.string s, .int .i64 v]) ?_ rfl ?_
  rotate_left
  · exact ⟨rfl, BF.out⟩
  generalize ((w.alloc (.cells #[.string s, .int .i64 v, .bool f] 76)).alloc (.cells #[.string s, .int .i64 v] 68)) = W5 at KF ⊢
  have c30 := KF.out.cell 0
  have c31 := KF.out.cell 1
  simp [results, Try.results33, go_sem, c30, c31]
/-! ### The place of a key -/
set_option maxHeartbeats 800000 in
theorem efind1_any (w : World) (k : ByteArray) (v : Int) (f : Bool) (g : Nat) (s : ByteArray) (hg : w.cell? ⟨g, 0, none⟩ = some (.string s)) :
    Calls Try.prog 78 #[.agg #[.string k, .int .i64 v, .bool f], .pointer (some ⟨g, 0, none⟩)] w fun e w' => e = .returned (.bool (decide (k = s))) ∧ Below w.heap.size w w' := by
  have g0 := keep_of_below (bel_alloc w (.cells #[.string k, .int .i64 v, .bool f] 76)) _ _ hg
  have BE : Hid (Below w.heap.size w (w.alloc (.cells #[.string k, .int .i64 v, .bool f] 76))) := bel_alloc _ _
  have x0 : (w.alloc (.cells #[.string k, .int .i64 v, .bool f] 76)).cell? ⟨w.heap.size, 0, none⟩ = some (.string k) := (Blk.new _ _ _).cell 0
  clear hg
  by_cases e : k = s
  · have q : (k.toList == s.toList) = true := by rw [str_eq, decide_eq_true e]
    have E := hidE (decide_eq_true e)
    clear e
    go_enter Try.func78, Try.ntmps78
    go_wp2_with fail
    go_ret
    exact ⟨by rw [E.out]; rfl, BE.out⟩
  · have q : (k.toList == s.toList) = false := by rw [str_eq, decide_eq_false e]
    have E := hidE (decide_eq_false e)
    clear e
    go_enter Try.func78, Try.ntmps78
    go_wp2_with fail
    go_ret
    exact ⟨by rw [E.out]; rfl, BE.out⟩
set_option maxHeartbeats 1600000 in
theorem eindex_any (w : World) (ev : Value) (l : List Ent) (g : Nat) (s : ByteArray) (h : EntsE w ev l) (hl : l.length ≤ 100000) (hg : w.cell? ⟨g, 0, none⟩ = some (.string s)) :
    Calls Try.prog 77 #[ev, .func (.func 78) #[] #[.pointer (some ⟨g, 0, none⟩)]] w fun e w' => e = .returned (.int .i64 (atI l s)) ∧ Below w.heap.size w w' := by
  obtain ⟨A, cap, b, o, rfl, hc, h3, h4⟩ := h
  have H3 := hidE h3
  have H4 := hidE h4
  have HG := hidE hg
  obtain ⟨n, hn⟩ : ∃ n, n = l.length := ⟨_, rfl⟩
  have HN := hidE hn
  rw [← hn] at hc hl ⊢
  clear h3 h4 hn hg
  have eg : ∀ args w, (callFunc 78 args).run Try.prog w = .ok (.enter 78 args) w := enters_of Try.func78 (by kernel_rfl) rfl
  go_enter Try.func77, Try.ntmps77
  go_wp2_with fail
  go_loopg [5, 8] n (fun gk i5 i wr => ∃ k : Nat, (gk = n - k ∧ k ≤ n ∧ Below w.heap.size w wr ∧ ∀ j x, j < k → l[j]? = some x → x.k ≠ s) ∧ i = .int .i64 (k : Int))
  case atStart => exact ⟨0, ⟨rfl, by omega, Below.refl _ _, fun j x hj => by omega⟩, rfl⟩
  case round =>
    obtain ⟨k, ⟨hgk, hk, hB, hS⟩, rfl⟩ := hrel
    have HB := hidE hB
    have HK := hidE hgk
    have HS := hidE hS
    clear hB hgk hS
    by_cases hz : k < n
    · obtain rfl := H3.out (by rw [← HN.out]; omega)
      obtain ⟨y, hy⟩ : ∃ y, l[k]? = some y := ⟨_, List.getElem?_eq_getElem (by rw [← HN.out]; exact hz)⟩
      obtain ⟨c1, c2, c3⟩ := H4.out k y hy
      have c1 := keep_of_below HB.out _ _ c1
      have c2 := keep_of_below HB.out _ _ c2
      have c3 := keep_of_below HB.out _ _ c3
      obtain ⟨t, d, f⟩ := y
      simp only at c1 c2 c3
      have HY : Hid (l[k]? = some ⟨t, d, f⟩) := hy
      have bk : (k : Int) < (n : Int) := by omega
      have bk0 : (0 : Int) ≤ (k : Int) := by omega
      have CF := hidE (efind1_any wr t d f g s (keep_of_below HB.out _ _ HG.out))
      clear hy
      go_wp2_with fail
      go_at_fn 78
      refine CF.out.mono ?_
      rintro e u1 ⟨rfl, b1⟩
      have B1 := hidE (bel_trans HB.out b1)
      clear b1 CF c1 c2 c3
      by_cases e : t = s
      · have HE := hidE e
        rw [decide_eq_true e]
        clear e
        go_wp2_with fail
        go_ret
        rw [atI_some (atE_find HY.out HE.out HS.out)]
        exact ⟨rfl, B1.out⟩
      · have HE := hidE e
        rw [decide_eq_false e]
        clear e
        go_wp2_with fail
        go_roundg (n - (k + 1))
        case measure => have := HK.out; omega
        case rel =>
          refine ⟨k + 1, ⟨rfl, by omega, B1.out, fun j x hj hx => ?_⟩, by go_num⟩
          by_cases ej : j = k
          · subst ej
            have := HY.out.symm.trans hx
            cases this
            exact HE.out
          · exact HS.out j x (by omega) hx
    · have bk : ¬ (k : Int) < (n : Int) := by omega
      go_wp2_with fail
      go_ret
      rw [atI_none (atE_miss fun j x hx => HS.out j x (by have := HN.out; have := (List.getElem?_eq_some_iff.1 hx).1; omega) hx)]
      exact ⟨rfl, HB.out⟩
set_option maxHeartbeats 800000 in
theorem efind_any (w : World) (ev : Value) (l : List Ent) (s : ByteArray) (h : EntsE w ev l) (hl : l.length ≤ 100000) :
    Calls Try.prog 54 #[ev, .string s] w fun e w' => e = .returned (.int .i64 (atI l s)) ∧ Below w.heap.size w w' := by
  have BE : Hid (Below w.heap.size w (w.alloc (.cells #[.string s] 9))) := bel_alloc _ _
  have CF := hidE (eindex_any (w.alloc (.cells #[.string s] 9)) ev l w.heap.size s (h.keep (keep_of_below BE.out)) hl ((Blk.new _ _ _).cell 0))
  clear h
  go_enter Try.func54, Try.ntmps54
  go_wp2_with fail
  refine CF.out.mono ?_
  rintro e u1 ⟨rfl, b1⟩
  go_wp2_with fail
  go_ret
  exact ⟨rfl, bel_trans BE.out b1⟩
end Go.Proofs.Ytihealembikkiaa
