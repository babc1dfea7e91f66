
/-
  Buckets of a call's own, each with entries of its own: copied of layer 15 (elastic).
-/
import Derived.Test.YtihealembikkiaaElSmo2
import Derived.Lib.SmallJoins
namespace Go.Proofs.Ytihealembikkiaa
open Go.RowKit Fm Bl Lt El L2 L14 Go.Deep Go.Shelf
set_option linter.unusedVariables false
set_option maxRecDepth 20000
set_option linter.unusedSimpArgs false

/-- A block whose first cells are known. -/
def RowV (w : World) (g : Nat) (t : TypeId) (m : Nat) (f : Nat → Value) : Prop := ∃ cur, Blk w g t cur ∧ ∀ j, j < m → cur[j]? = some (f j)
theorem RowV.cell {w : World} {g m : Nat} {t : TypeId} {f : Nat → Value} (h : RowV w g t m f) {j : Nat} (hj : j < m) : w.cell? ⟨g, j, none⟩ = some (f j) := by
  obtain ⟨cur, h1, h2⟩ := h
  rw [h1.cell j]; exact h2 j hj
theorem RowV.frozen {w : World} {g m : Nat} {t : TypeId} {f : Nat → Value} (h : RowV w g t m f) (j : Nat) : w.frozen? ⟨g, j, none⟩ = false := by
  obtain ⟨cur, h1, h2⟩ := h
  exact h1.frozen j
theorem RowV.lt {w : World} {g m : Nat} {t : TypeId} {f : Nat → Value} (h : RowV w g t m f) : g < w.heap.size := by
  obtain ⟨cur, h1, h2⟩ := h
  exact h1.lt
theorem RowV.of {w w' : World} {g m : Nat} {t : TypeId} {f : Nat → Value} (h : RowV w g t m f) (e : w'.heap[g]? = w.heap[g]?) : RowV w' g t m f := by
  obtain ⟨cur, h1, h2⟩ := h
  exact ⟨cur, h1.of e, h2⟩
theorem RowV.congr {w : World} {g m : Nat} {t : TypeId} {f f' : Nat → Value} (h : RowV w g t m f) (e : ∀ j, j < m → f j = f' j) : RowV w g t m f' := by
  obtain ⟨cur, h1, h2⟩ := h
  exact ⟨cur, h1, fun j hj => by rw [← e j hj]; exact h2 j hj⟩
theorem RowV.set {w : World} {g m : Nat} {t : TypeId} {f : Nat → Value} (h : RowV w g t m f) (p : Nat) (x : Value) : RowV (w.setCell ⟨g, p, none⟩ x) g t m (fun j => if j = p then x else f j) := by
  obtain ⟨cur, h1, h2⟩ := h
  refine ⟨_, h1.set p x, fun i hi => ?_⟩
  have hz : i < cur.size := by
    rcases Nat.lt_or_ge i cur.size with hl | hl
    · exact hl
    · have := h2 i hi
      rw [Array.getElem?_eq_none hl] at this
      cases this
  rw [Array.getElem?_setIfInBounds]
  by_cases e : p = i
  · subst e
    simp [hz]
  · rw [if_neg e]
    show cur[i]? = some (if i = p then x else f i)
    rw [if_neg (fun (y : i = p) => e y.symm)]
    exact h2 i hi
/-- The cells of buckets: a value of entries each, and votes against them. -/
def cellB (V : Nat → Value) (AG : Nat → Int) (j : Nat) : Value := if j % 2 = 0 then V (j / 2) else .int .i64 (AG (j / 2))
def RowK (w : World) (g n : Nat) (V : Nat → Value) (AG : Nat → Int) : Prop := RowV w g 56 (n * 2) (cellB V AG)
theorem RowK.ents {w : World} {g n : Nat} {V : Nat → Value} {AG : Nat → Int} (h : RowK w g n V AG) {i : Nat} (hi : i < n) : w.cell? ⟨g, i * 2, none⟩ = some (V i) := by
  have e := RowV.cell h (j := i * 2) (by omega)
  unfold cellB at e
  rw [if_pos (by omega), show i * 2 / 2 = i by omega] at e
  exact e
theorem RowK.ag {w : World} {g n : Nat} {V : Nat → Value} {AG : Nat → Int} (h : RowK w g n V AG) {i : Nat} (hi : i < n) : w.cell? ⟨g, i * 2 + 1, none⟩ = some (.int .i64 (AG i)) := by
  have e := RowV.cell h (j := i * 2 + 1) (by omega)
  unfold cellB at e
  rw [if_neg (by omega), show (i * 2 + 1) / 2 = i by omega] at e
  exact e
theorem RowK.lt {w : World} {g n : Nat} {V : Nat → Value} {AG : Nat → Int} (h : RowK w g n V AG) : g < w.heap.size := RowV.lt h
theorem RowK.frozen {w : World} {g n : Nat} {V : Nat → Value} {AG : Nat → Int} (h : RowK w g n V AG) (i : Nat) : w.frozen? ⟨g, i, none⟩ = false := RowV.frozen h i
theorem RowK.of {w w' : World} {g n : Nat} {V : Nat → Value} {AG : Nat → Int} (h : RowK w g n V AG) (e : w'.heap[g]? = w.heap[g]?) : RowK w' g n V AG := RowV.of h e
theorem RowK.since {w w' : World} {g n : Nat} {V : Nat → Value} {AG : Nat → Int} (h : RowK w g n V AG) (b : Below w.heap.size w w') : RowK w' g n V AG := h.of (b.block g h.lt)
theorem RowK.setE {w : World} {g n : Nat} {V : Nat → Value} {AG : Nat → Int} (h : RowK w g n V AG) (i : Nat) (v : Value) : RowK (w.setCell ⟨g, i * 2, none⟩ v) g n (fun j => if j = i then v else V j) AG :=
  RowV.congr (RowV.set h (i * 2) v) fun j hj => by
    unfold cellB
    by_cases e : j = i * 2
    · subst e
      simp
    · rw [if_neg e]
      by_cases m : j % 2 = 0
      · rw [if_pos m, if_pos m]
        show V (j / 2) = if j / 2 = i then v else V (j / 2)
        rw [if_neg (by omega)]
      · rw [if_neg m, if_neg m]
theorem RowK.setA {w : World} {g n : Nat} {V : Nat → Value} {AG : Nat → Int} (h : RowK w g n V AG) (i : Nat) (x : Int) : RowK (w.setCell ⟨g, i * 2 + 1, none⟩ (.int .i64 x)) g n V (fun j => if j = i then x else AG j) :=
  RowV.congr (RowV.set h (i * 2 + 1) (.int .i64 x)) fun j hj => by
    unfold cellB
    by_cases e : j = i * 2 + 1
    · subst e
      rw [if_pos rfl, if_neg (by omega)]
      show _ = Value.int .i64 (if (i * 2 + 1) / 2 = i then x else AG _)
      rw [if_pos (by omega)]
    · rw [if_neg e]
      by_cases m : j % 2 = 0
      · rw [if_pos m, if_pos m]
      · rw [if_neg m, if_neg m]
        show _ = Value.int .i64 (if j / 2 = i then x else AG (j / 2))
        rw [if_neg (by omega)]
/-- The cells of entries, one by one. -/
theorem ents_cells {w : World} {l : List Ent} {b o : Nat} (h : ∀ (i : Nat) (e : Ent), l[i]? = some e → w.cell? ⟨b, o + i * 3, none⟩ = some (.string e.k) ∧ w.cell? ⟨b, o + i * 3 + 1, none⟩ = some (.int .i64 e.v) ∧ w.cell? ⟨b, o + i * 3 + 2, none⟩ = some (.bool e.f)) : ∀ (j : Nat) (u : Value), (eCells l)[j]? = some u → w.cell? ⟨b, o + j, none⟩ = some u := by
  intro j u hj
  have hl : j < l.length * 3 := by
    have := (List.getElem?_eq_some_iff.1 hj).1
    rw [eCells_len] at this
    exact this
  obtain ⟨x, hx⟩ : ∃ x, l[j / 3]? = some x := ⟨_, List.getElem?_eq_getElem (by omega)⟩
  obtain ⟨g1, g2, g3⟩ := eCells_get l _ _ hx
  obtain ⟨k1, k2, k3⟩ := h _ _ hx
  rcases (show j % 3 = 0 ∨ j % 3 = 1 ∨ j % 3 = 2 by omega) with m | m | m
  · rw [show j / 3 * 3 = j by omega] at g1 k1
    rw [g1] at hj
    rw [← hj, ← k1]
  · rw [show j / 3 * 3 + 1 = j by omega] at g2
    rw [show o + j / 3 * 3 + 1 = o + j by omega] at k2
    rw [g2] at hj
    rw [← hj, ← k2]
  · rw [show j / 3 * 3 + 2 = j by omega] at g3
    rw [show o + j / 3 * 3 + 2 = o + j by omega] at k3
    rw [g3] at hj
    rw [← hj, ← k3]
theorem eCells_one : ∀ (l : List Ent), ∀ u ∈ eCells l, u.oneCell' = true
  | [], u, h => by cases h
  | x :: r, u, h => by
    rw [eCells] at h
    rcases List.mem_cons.1 h with rfl | h
    · rfl
    · rcases List.mem_cons.1 h with rfl | h
      · rfl
      · rcases List.mem_cons.1 h with rfl | h
        · rfl
        · exact eCells_one r u h
theorem ecloneE_any (w : World) (v : Value) (l : List Ent) (h : EntsE w v l) (hn : l.length ≤ 100000) : Calls Try.prog 52 #[v] w fun e w' => ∃ v', e = .returned v' ∧ w'.ownsRow w.heap.size 76 3 v' l.length (eCells l) ∧ Below w.heap.size w w' := by
  obtain ⟨A, cap, b, o, rfl, h2, h3, h4⟩ := h
  exact ecloneE w A l.length cap b o (eCells l) (eCells_len l) h2 h3 (ents_cells h4) (eCells_one l) hn
/-- Is it the block of the p-th, once that one is copied? -/
def ownP (V : Nat → Value) (p k : Nat) : Option Nat := if p < k then (V p).ownBlock else none
/-- What the loop of copied keeps: the row, what is copied, what is not. -/
structure CopB (w0 wr : World) (g n p k : Nat) (bs : List Bkt) (V : Nat → Value) (AG : Nat → Int) : Prop where
  since : Below w0.heap.size w0 wr
  base : w0.heap.size ≤ g
  row : RowK wr g n V AG
  ags : ∀ (i : Nat) (x : Bkt), bs[i]? = some x → AG i = x.ag
  old : ∀ (i : Nat) (x : Bkt), k ≤ i → bs[i]? = some x → Held (fun q => q < w0.heap.size) (fun u => EntsE u (V i) x.es) wr
  new : ∀ (i : Nat) (x : Bkt), i < k → i ≠ p → bs[i]? = some x → Held (fun q => w0.heap.size ≤ q ∧ q ≠ g ∧ some q ≠ ownP V p k) (fun u => EntsE u (V i) x.es) wr
  own : ∀ (x : Bkt), p < k → bs[p]? = some x → wr.ownsRow w0.heap.size 76 3 (V p) x.es.length (eCells x.es) ∧ (V p).ownBlock ≠ some g
theorem own_le {w : World} {base base' size n : Nat} {e : TypeId} {v : Value} {xs : List Value} (h : w.ownsRow base e size v n xs) (hb : base' ≤ base) : w.ownsRow base' e size v n xs := by
  refine ⟨h.1, ?_⟩
  rcases h.2 with q | ⟨g, cap, cur, h1, h2, r⟩
  · exact Or.inl q
  · exact Or.inr ⟨g, cap, cur, h1, by omega, r⟩
theorem own_slice {w : World} {base size n : Nat} {e : TypeId} {v : Value} {xs : List Value} (h : w.ownsRow base e size v n xs) : ∃ A c, v = .slice A n c := by
  rcases h.2 with ⟨q, z⟩ | ⟨g, cap, cur, h1, r⟩
  · exact ⟨_, _, by rw [q, z]⟩
  · exact ⟨_, _, h1⟩
theorem ents_held {w : World} {N : Nat} {t : TypeId} {v : Value} {l : List Ent} {D : Nat → Prop} (h : w.ownsRow N t 3 v l.length (eCells l)) (d : ∀ q, v.ownBlock = some q → D q) : Held D (fun u => EntsE u v l) w := fun u e =>
  owns_ents (owns_at h fun g hg => e.2 g (d g hg) (h.lt g hg).2)
theorem CopB.step {w0 wr w1 : World} {g n p k : Nat} {bs : List Bkt} {V : Nat → Value} {AG : Nat → Int} {x : Bkt} {v' : Value} (h : CopB w0 wr g n p k bs V AG) (hx : bs[k]? = some x) (hown : w1.ownsRow wr.heap.size 76 3 v' x.es.length (eCells x.es)) (hb : Below wr.heap.size wr w1) :
    CopB w0 (w1.setCell ⟨g, k * 2, none⟩ v') g n p (k + 1) bs (fun j => if j = k then v' else V j) AG := by
  have gl := h.row.lt
  have sz := h.since.size
  have low : ∀ q, v'.ownBlock = some q → wr.heap.size ≤ q := fun q hq => (hown.lt q hq).1
  have S1 : ∀ {D : Nat → Prop}, ¬ D g → Same D w1 (w1.setCell ⟨g, k * 2, none⟩ v') := fun d => Same.setCell (a := ⟨g, k * 2, none⟩) d _
  refine ⟨(bel_trans h.since hb).setCell (p := ⟨g, k * 2, none⟩) h.base _, h.base, (h.row.since hb).setE k v', h.ags, fun i y hi hy => ?_, fun i y hi ip hy => ?_, fun y hp hy => ?_⟩
  · have := h.old i y (by omega) hy
    rw [if_neg (show i ≠ k by omega)]
    exact (this.since hb).same (S1 (by have := h.base; omega))
  · by_cases ik : i = k
    · subst ik
      rw [hx] at hy
      cases hy
      simp only [if_pos]
      refine Held.same (ents_held hown fun q hq => ⟨by have := low q hq; omega, by have := low q hq; omega, ?_⟩) (S1 fun z => z.2.1 rfl)
      unfold ownP
      split
      · rename_i pk
        show some q ≠ (if p = i then v' else V p).ownBlock
        rw [if_neg (show p ≠ i by omega)]
        intro z
        have pl := (List.getElem?_eq_some_iff.1 hx).1
        obtain ⟨yp, hyp⟩ : ∃ y, bs[p]? = some y := ⟨_, List.getElem?_eq_getElem (show p < bs.length by omega)⟩
        have := ((h.own yp (by omega) hyp).1.lt q z.symm).2
        have := low q hq
        omega
      · exact fun z => by cases z
    · rw [if_neg ik]
      refine Held.same ((h.new i y (by omega) ip hy).mono ?_ |>.since hb) (S1 (D := fun q => w0.heap.size ≤ q ∧ q ≠ g ∧ some q ≠ ownP (fun j => if j = k then v' else V j) p (k + 1)) fun z => z.2.1 rfl)
      rintro q ql ⟨d1, d2, d3⟩
      refine ⟨d1, d2, ?_⟩
      unfold ownP at d3 ⊢
      by_cases pk : p = k
      · rw [if_pos (by omega)]
        show some q ≠ (if p = k then v' else V p).ownBlock
        rw [if_pos pk]
        intro z
        have := low q z.symm
        omega
      · show some q ≠ if p < k + 1 then (if p = k then v' else V p).ownBlock else none
        rw [if_neg pk]
        by_cases pl : p < k
        · rw [if_pos pl] at d3
          rw [if_pos (by omega)]
          exact d3
        · rw [if_neg (by omega)]
          exact fun z => by cases z
  · by_cases pk : p = k
    · subst pk
      rw [hx] at hy
      cases hy
      simp only [if_pos]
      have ne : v'.ownBlock ≠ some g := fun z => by have := low g z; omega
      refine ⟨owns_at (own_le hown sz) fun q hq => Below.heap_setCell _ _ _ _ (fun (z : q = g) => ne (by rw [hq, z])), ne⟩
    · rw [if_neg pk]
      obtain ⟨o1, o2⟩ := h.own y (by omega) hy
      refine ⟨owns_at o1 fun q hq => ?_, o2⟩
      rw [Below.heap_setCell _ _ _ _ (fun (z : q = g) => o2 (by rw [hq, z]))]
      exact hb.block q (o1.lt q hq).2
/-- Buckets that the call copied; those of the p-th are known. -/
def CopiedE (w : World) (n p : Nat) (bs : List Bkt) (e : Ending) (w' : World) : Prop := ∃ g cap V AG, e = .returned (.slice (some ⟨g, 0, none⟩) n cap) ∧ n ≤ cap ∧ CopB w w' g n p n bs V AG
set_option maxHeartbeats 3200000 in
theorem ecopied_any (w : World) (v : Value) (bs : List Bkt) (n p : Nat) (h : BktsE w v bs) (hn : n = bs.length) (n0 : 0 < n) (n1 : n ≤ 1000) (he : ∀ (i : Nat) (x : Bkt), bs[i]? = some x → x.es.length ≤ 1000) : Calls Try.prog 28 #[v] w (CopiedE w n p bs) := by
  obtain ⟨A, cap, b, o, rfl, hc, h3, h4⟩ := h
  obtain rfl := h3 (by omega)
  have hex : ∀ i, ∃ ev, ∀ (x : Bkt), bs[i]? = some x → w.cell? ⟨b, o + i * 2, none⟩ = some ev ∧ w.cell? ⟨b, o + i * 2 + 1, none⟩ = some (.int .i64 x.ag) ∧ EntsE w ev x.es := fun i => by
    by_cases hi : i < bs.length
    · obtain ⟨x, hx⟩ : ∃ x, bs[i]? = some x := ⟨_, List.getElem?_eq_getElem hi⟩
      obtain ⟨ev, q⟩ := h4 i x hx
      exact ⟨ev, fun y hy => by rw [hx] at hy; cases hy; exact q⟩
    · exact ⟨undef, fun x hx => absurd (List.getElem?_eq_some_iff.1 hx).1 hi⟩
  obtain ⟨V, hV⟩ := Classical.axiomOfChoice hex
  obtain ⟨AG, hAG⟩ : ∃ AG : Nat → Int, ∀ i x, bs[i]? = some x → AG i = x.ag := ⟨fun i => match bs[i]? with | some x => x.ag | none => 0, fun i x hx => by simp only [hx]⟩
  have HV := hidE hV
  have HAG := hidE hAG
  have HN := hidE hn
  have HE := hidE he
  have CC := hidE (ecloneB w (some ⟨b, o, none⟩) n cap b o ((List.range (n * 2)).map (cellB V AG)) (by simp) (by omega) (fun _ => rfl) (fun j u hj => by
    have jl : j < n * 2 := by
      have := (List.getElem?_eq_some_iff.1 hj).1
      simpa using this
    have e : u = cellB V AG j := by
      rw [List.getElem?_map, List.getElem?_range jl] at hj
      simpa using hj.symm
    obtain ⟨x, hx⟩ : ∃ x, bs[j / 2]? = some x := ⟨_, List.getElem?_eq_getElem (by omega)⟩
    obtain ⟨k1, k2, _⟩ := HV.out _ x hx
    rw [e]
    unfold cellB
    by_cases m : j % 2 = 0
    · rw [if_pos m, ← k1, show j / 2 * 2 = j by omega]
    · rw [if_neg m, HAG.out _ x hx, ← k2, show o + j / 2 * 2 + 1 = o + j by omega]) (fun u hu => by
    obtain ⟨j, hj, rfl⟩ := List.mem_map.1 hu
    unfold cellB
    by_cases m : j % 2 = 0
    · rw [if_pos m]
      have jl : j < n * 2 := by simpa using hj
      obtain ⟨x, hx⟩ : ∃ x, bs[j / 2]? = some x := ⟨_, List.getElem?_eq_getElem (by omega)⟩
      obtain ⟨_, _, A2, c2, b2, o2, e2, _⟩ := HV.out _ x hx
      rw [e2]
      rfl
    · rw [if_neg m]
      rfl) (by omega))
  rw [← hn] at hc ⊢
  clear h3 h4 hex hV hAG hn he
  go_enter Try.func28, Try.ntmps28
  go_wp2_with fail
  refine CC.out.mono ?_
  rintro e u1 ⟨v', rfl, hown, b1⟩
  rcases hown.2 with ⟨_, z⟩ | ⟨g, cp, cur, rfl, hbg, hg, hcp, _, hsz, hx⟩
  · omega
  have C0 : Hid (CopB w u1 g n p 0 bs V AG) := by
    have row : RowK u1 g n V AG := by
      refine ⟨cur, hg, fun j hj => ?_⟩
      have e : ((List.range (n * 2)).map (cellB V AG))[j]? = some (cellB V AG j) := by
        rw [List.getElem?_map, List.getElem?_range hj]
        rfl
      rw [← hx, List.getElem?_take] at e
      rw [if_pos hj, Array.getElem?_toList] at e
      exact e
    exact ⟨b1, hbg, row, HAG.out, fun i x _ hx => fun u e => (HV.out i x hx).2.2.keep (Same.keep ⟨by have := b1.size; have := e.1; omega, fun q _ hq => by rw [e.2 q hq (by have := b1.size; omega)]; exact b1.block q hq⟩), fun i x hi => by omega, fun x hp => by omega⟩
  have HC := hidE hcp
  clear hown hbg hg hcp hsz hx b1 CC
  go_wp2_with fail
  go_loopg [4, 9] n (fun gk s4 i wr => ∃ (k : Nat) (V : Nat → Value), (gk = n - k ∧ k ≤ n ∧ CopB w wr g n p k bs V AG) ∧ i = .int .i64 (k : Int))
  case atStart => exact ⟨0, V, ⟨rfl, by omega, C0.out⟩, rfl⟩
  case round =>
    clear C0 HV
    clear V
    obtain ⟨k, V, ⟨hgk, hk, hB⟩, rfl⟩ := hrel
    have HB := hidE hB
    have HK := hidE hgk
    clear hB hgk
    by_cases hz : k < n
    · obtain ⟨x, hx⟩ : ∃ x, bs[k]? = some x := ⟨_, List.getElem?_eq_getElem (by rw [← HN.out]; exact hz)⟩
      have bk : (k : Int) < (n : Int) := by omega
      have bk0 : (0 : Int) ≤ (k : Int) := by omega
      have x0 := HB.out.row.ents hz
      have CL := hidE (ecloneE_any wr (V k) x.es (HB.out.old k x (Nat.le_refl _) hx).at (by have := HE.out k x hx; omega))
      have HX := hidE hx
      clear hx
      generalize hvk : V k = vk at x0 CL
      clear hvk
      go_wp2_with fail
      refine CL.out.mono ?_
      rintro e u2 ⟨v2, rfl, hown, b2⟩
      obtain ⟨A2, c2, rfl⟩ := own_slice hown
      have C2 := hidE (HB.out.step HX.out hown b2)
      have f2 : u2.frozen? ⟨g, k * 2, none⟩ = false := (HB.out.row.since b2).frozen _
      have y2 : u2.cell? ⟨g, k * 2, none⟩ = some vk := keep_of_below b2 _ _ x0
      clear hown b2 CL x0
      go_wp2_with fail
      go_roundg (n - (k + 1))
      case measure => have := HK.out; omega
      case rel => exact ⟨k + 1, _, ⟨rfl, by omega, C2.out⟩, by go_num⟩
    · have bk : ¬ (k : Int) < (n : Int) := by omega
      have e : k = n := by omega
      have HE2 := hidE e
      clear e
      go_wp2_with fail
      go_ret
      exact ⟨g, cp, V, AG, rfl, HC.out, by have := HB.out; rw [HE2.out] at this; exact this⟩
end Go.Proofs.Ytihealembikkiaa
