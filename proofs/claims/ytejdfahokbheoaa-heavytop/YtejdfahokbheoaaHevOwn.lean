
/-
  Items of a call's own, by place: read, written, put behind, cut off. Of no layer but for the type's number.
-/
import Derived.Test.YtejdfahokbheoaaHevMem
import Derived.Test.YtejdfahokbheoaaHevHeap
import Derived.WalkSmall
namespace Go.Proofs.Ytejdfahokbheoaa
open Go.RowKit Hv Go.Deep
set_option linter.unusedVariables false

def lstL (n : Nat) (a : Nat → Itm) : List Itm := (List.range n).map a
theorem lstL_len (n : Nat) (a : Nat → Itm) : (lstL n a).length = n := by unfold lstL; rw [List.length_map, List.length_range]
theorem lstL_get {n i : Nat} (a : Nat → Itm) (h : i < n) : (lstL n a)[i]? = some (a i) := by
  unfold lstL
  rw [List.getElem?_map, List.getElem?_range h]
  rfl
theorem lstL_out {n i : Nat} (a : Nat → Itm) (h : n ≤ i) : (lstL n a)[i]? = none := List.getElem?_eq_none (by rw [lstL_len]; exact h)
theorem lstL_succ (n : Nat) (a : Nat → Itm) : lstL (n + 1) a = lstL n a ++ [a n] := by
  unfold lstL
  rw [List.range_succ, List.map_append]
  rfl
theorem lstL_congr {n : Nat} {a b : Nat → Itm} (h : ∀ i, i < n → a i = b i) : lstL n a = lstL n b := by
  unfold lstL
  exact List.map_congr_left fun i hi => h i (List.mem_range.1 hi)
theorem lstL_upd {n i : Nat} (a : Nat → Itm) (x : Itm) : lstL n (upd a i x) = (lstL n a).set i x := by
  apply List.ext_getElem? fun j => ?_
  by_cases hj : j < n
  · rw [lstL_get _ hj, List.getElem?_set]
    by_cases e : i = j
    · subst e
      rw [upd_at, if_pos rfl, if_pos (by rw [lstL_len]; exact hj)]
    · rw [if_neg e, upd_not _ _ (Ne.symm e), lstL_get _ hj]
  · rw [lstL_out _ (by omega), List.getElem?_eq_none (by rw [List.length_set, lstL_len]; omega)]
theorem lstL_mem {n : Nat} {a : Nat → Itm} {x : Itm} : x ∈ lstL n a ↔ ∃ i, i < n ∧ a i = x := by
  unfold lstL
  rw [List.mem_map]
  exact ⟨fun ⟨i, h, e⟩ => ⟨i, List.mem_range.1 h, e⟩, fun ⟨i, h, e⟩ => ⟨i, List.mem_range.2 h, e⟩⟩
theorem lCells_set : ∀ (l : List Itm) (i : Nat) (x : Itm), ((lCells l).set (i * 2) (.string x.k)).set (i * 2 + 1) (.int .i64 x.c) = lCells (l.set i x)
  | [], i, x => by simp [lCells]
  | y :: r, 0, x => by simp [lCells]
  | y :: r, i + 1, x => by
    rw [show (i + 1) * 2 = i * 2 + 1 + 1 by omega]
    simp only [lCells, List.set_cons_succ]
    rw [lCells_set r i x]
theorem lCells_count (l : List Itm) (i : Nat) (y : Itm) (c : Int) (h : l[i]? = some y) : (lCells l).set (i * 2 + 1) (.int .i64 c) = lCells (l.set i ⟨y.k, c⟩) := by
  rw [← lCells_set l i ⟨y.k, c⟩]
  congr 1
  have := (lCells_get l i y h).1
  obtain ⟨hl, he⟩ := List.getElem?_eq_some_iff.1 this
  exact (show lCells l = (lCells l).set (i * 2) (.string y.k) by rw [← he, List.set_getElem_self])
/-- Items of a call's own. -/
def RowL (w : World) (Bd : Nat) (t : TypeId) (v : Value) (n : Nat) (a : Nat → Itm) : Prop := w.ownsRow Bd t 2 v n (lCells (lstL n a))
theorem rowL_nil (w : World) (Bd : Nat) (t : TypeId) (a : Nat → Itm) : RowL w Bd t (.slice none 0 0) 0 a := World.ownsRow_nil w _ _ _
theorem RowL.form {w : World} {Bd : Nat} {t : TypeId} {v : Value} {n : Nat} {a : Nat → Itm} (h : RowL w Bd t v n a) (n0 : 0 < n) : ∃ g cap, v = .slice (some ⟨g, 0, none⟩) n cap ∧ Bd ≤ g ∧ g < w.heap.size := World.ownsRow.form h n0
theorem RowL.slice {w : World} {Bd : Nat} {t : TypeId} {v : Value} {n : Nat} {a : Nat → Itm} (h : RowL w Bd t v n a) : ∃ A cap g, v = .slice A n cap ∧ n ≤ cap ∧ (0 < n → A = some ⟨g, 0, none⟩) := by
  rcases h.2 with ⟨rfl, h0⟩ | ⟨g, cap, cur, rfl, _, _, hn, _⟩
  · exact ⟨none, 0, 0, by rw [h0], by omega, fun z => by omega⟩
  · exact ⟨_, cap, g, rfl, hn, fun _ => rfl⟩
theorem RowL.cell {w : World} {Bd g cap : Nat} {t : TypeId} {n : Nat} {a : Nat → Itm} (h : RowL w Bd t (.slice (some ⟨g, 0, none⟩) n cap) n a) {i : Nat} (hi : i < n) : w.cell? ⟨g, i * 2, none⟩ = some (.string (a i).k) ∧ w.cell? ⟨g, i * 2 + 1, none⟩ = some (.int .i64 (a i).c) := by
  obtain ⟨g1, g2⟩ := lCells_get _ _ _ (lstL_get a hi)
  exact ⟨by rw [World.ownsRow.cellAt h (i * 2) (by omega)]; exact g1, by rw [World.ownsRow.cellAt h (i * 2 + 1) (by omega)]; exact g2⟩
theorem RowL.frozen {w : World} {Bd g cap : Nat} {t : TypeId} {n : Nat} {a : Nat → Itm} (h : RowL w Bd t (.slice (some ⟨g, 0, none⟩) n cap) n a) (j : Nat) : w.frozen? ⟨g, j, none⟩ = false := World.ownsRow.frozenAt h j
theorem RowL.congr {w : World} {Bd : Nat} {t : TypeId} {v : Value} {n : Nat} {a b : Nat → Itm} (h : RowL w Bd t v n a) (e : ∀ i, i < n → a i = b i) : RowL w Bd t v n b := by
  unfold RowL
  rw [← lstL_congr e]
  exact h
theorem RowL.mono {w : World} {Bd Bd' : Nat} {t : TypeId} {v : Value} {n : Nat} {a : Nat → Itm} (h : RowL w Bd t v n a) (e : Bd' ≤ Bd) : RowL w Bd' t v n a := by
  refine ⟨h.1, ?_⟩
  rcases h.2 with h0 | ⟨g, cap, cur, hv, hg, r⟩
  · exact Or.inl h0
  · exact Or.inr ⟨g, cap, cur, hv, by omega, r⟩
theorem RowL.of {w w' : World} {Bd : Nat} {t : TypeId} {v : Value} {n : Nat} {a : Nat → Itm} (h : RowL w Bd t v n a) (e : ∀ g, v.ownBlock = some g → w'.heap[g]? = w.heap[g]?) : RowL w' Bd t v n a := by
  refine ⟨h.1, ?_⟩
  rcases h.2 with h0 | ⟨g, cap, cur, hv, hg, hh, r⟩
  · exact Or.inl h0
  · exact Or.inr ⟨g, cap, cur, hv, hg, by rw [e g (by rw [hv]; rfl)]; exact hh, r⟩
theorem RowL.lt {w : World} {Bd : Nat} {t : TypeId} {v : Value} {n : Nat} {a : Nat → Itm} (h : RowL w Bd t v n a) : ∀ k, v.ownBlock = some k → Bd ≤ k ∧ k < w.heap.size := World.ownsRow.lt h
theorem RowL.since {w w' : World} {Bd : Nat} {t : TypeId} {v : Value} {n : Nat} {a : Nat → Itm} (h : RowL w Bd t v n a) (s : Below w.heap.size w w') : RowL w' Bd t v n a := h.of fun g e => s.block g (h.lt g e).2
theorem RowL.alloc {w : World} {Bd : Nat} {t : TypeId} {v : Value} {n : Nat} {a : Nat → Itm} (h : RowL w Bd t v n a) (o : Obj) : RowL (w.alloc o) Bd t v n a := h.of fun g e => Below.heap_alloc w o g (h.lt g e).2
theorem RowL.other {w : World} {Bd : Nat} {t : TypeId} {v : Value} {n : Nat} {a : Nat → Itm} (h : RowL w Bd t v n a) {p : Addr} (hp : v.ownBlock ≠ some p.block) (u : Value) : RowL (w.setCell p u) Bd t v n a := h.of fun g e => Below.heap_setCell w p u g fun z => hp (by rw [e, z])
theorem RowL.its {w : World} {Bd : Nat} {t : TypeId} {v : Value} {n : Nat} {a : Nat → Itm} (h : RowL w Bd t v n a) : ItsL w v (lstL n a) := owns_its (N := Bd) (t := t) (by rw [lstL_len]; exact h)
/-- An item written, both its cells. -/
theorem RowL.set {w : World} {Bd g cap : Nat} {t : TypeId} {n : Nat} {a : Nat → Itm} (h : RowL w Bd t (.slice (some ⟨g, 0, none⟩) n cap) n a) (i : Nat) (x : Itm) :
    RowL ((w.setCell ⟨g, i * 2, none⟩ (.string x.k)).setCell ⟨g, i * 2 + 1, none⟩ (.int .i64 x.c)) Bd t (.slice (some ⟨g, 0, none⟩) n cap) n (upd a i x) := by
  have h1 := (World.ownsRow.stored h (i * 2) (.string x.k)).1
  have h2 := (World.ownsRow.stored h1 (i * 2 + 1) (.int .i64 x.c)).1
  unfold RowL
  rw [lstL_upd, ← lCells_set]
  exact h2
/-- Its count alone. -/
theorem RowL.count {w : World} {Bd g cap : Nat} {t : TypeId} {n : Nat} {a : Nat → Itm} (h : RowL w Bd t (.slice (some ⟨g, 0, none⟩) n cap) n a) {i : Nat} (hi : i < n) (c : Int) :
    RowL (w.setCell ⟨g, i * 2 + 1, none⟩ (.int .i64 c)) Bd t (.slice (some ⟨g, 0, none⟩) n cap) n (upd a i ⟨(a i).k, c⟩) := by
  have h1 := (World.ownsRow.stored h (i * 2 + 1) (.int .i64 c)).1
  unfold RowL
  rw [lstL_upd, ← lCells_count _ _ _ _ (lstL_get a hi)]
  exact h1
/-- Two items changed. -/
theorem upd_swap (a : Nat → Itm) (i j : Nat) : upd (upd a i (a j)) j (a i) = swp a i j := by
  funext k
  by_cases e : k = j
  · subst e
    rw [upd_at, swp_r]
  · rw [upd_not _ _ e]
    by_cases f : k = i
    · subst f
      rw [upd_at, swp_l]
    · rw [upd_not _ _ f, swp_n a f e]
theorem RowL.swap {w : World} {Bd g cap : Nat} {t : TypeId} {n : Nat} {a : Nat → Itm} (h : RowL w Bd t (.slice (some ⟨g, 0, none⟩) n cap) n a) (i j : Nat) :
    RowL ((((w.setCell ⟨g, i * 2, none⟩ (.string (a j).k)).setCell ⟨g, i * 2 + 1, none⟩ (.int .i64 (a j).c)).setCell ⟨g, j * 2, none⟩ (.string (a i).k)).setCell ⟨g, j * 2 + 1, none⟩ (.int .i64 (a i).c)) Bd t (.slice (some ⟨g, 0, none⟩) n cap) n (swp a i j) := by
  rw [← upd_swap]
  exact (h.set i (a j)).set j (a i)
/-- One put behind. -/
theorem RowL.app {w : World} {Bd g cap : Nat} {t : TypeId} {n : Nat} {a : Nat → Itm} {x : Itm} (h : w.ownsRow Bd t 2 (.slice (some ⟨g, 0, none⟩) (n + 1) cap) (n + 1) (lCells (lstL n a) ++ [.string x.k, .int .i64 x.c])) : RowL w Bd t (.slice (some ⟨g, 0, none⟩) (n + 1) cap) (n + 1) (upd a n x) := by
  unfold RowL
  rw [lstL_succ, lCells_append, upd_at, lstL_congr (b := a) fun i hi => upd_not _ _ (by omega)]
  exact h
/-- The last one cut off. -/
theorem RowL.pop {w : World} {Bd g cap : Nat} {t : TypeId} {n : Nat} {a : Nat → Itm} (h : RowL w Bd t (.slice (some ⟨g, 0, none⟩) (n + 1) cap) (n + 1) a) : RowL w Bd t (.slice (some ⟨g, 0, none⟩) n cap) n a := by
  unfold RowL at h
  rw [lstL_succ, lCells_append] at h
  exact ownsRow_pop (by rw [lCells_len, lstL_len]) h
theorem infoHI0 : (Try.prog.info? 30).map (fun i => (i.zero, i.size, i.bytes)) = some (some (.agg #[.string ⟨#[]⟩, .int .i64 0]), 2, 24) := by kernel_rfl
theorem infoHI : ∃ i, Try.prog.info? 30 = some i ∧ i.zero = some (.agg #[.string ⟨#[]⟩, .int .i64 0]) ∧ i.size = 2 ∧ i.bytes = 24 := by
  obtain ⟨i, hi, hzz⟩ := Option.map_eq_some_iff.1 infoHI0
  simp only [Prod.mk.injEq] at hzz
  exact ⟨i, hi, hzz⟩
end Go.Proofs.Ytejdfahokbheoaa
