
/-
  Take: what it answers of any bytes.
-/
import Derived.Test.YticopigpgaomjaaEthEq
namespace Go.Proofs.Yticopigpgaomjaa.L5
open Go.RowKit Oc Et Go.Deep
set_option linter.unusedVariables false

theorem owns_below {w w' : World} {base : Nat} {e : TypeId} {size : Nat} {v : Value} {n : Nat} {xs : List Value} (h : w.ownsRow base e size v n xs) (hb : Below w.heap.size w w') : w'.ownsRow base e size v n xs := by
  obtain ⟨h1, h2⟩ := h
  refine ⟨h1, ?_⟩
  rcases h2 with h2 | ⟨g, cap, cur, hv, hg, hh, r⟩
  · exact Or.inl h2
  · refine Or.inr ⟨g, cap, cur, hv, hg, ?_, r⟩
    rw [hb.block g ?_]
    · exact hh
    · rcases Nat.lt_or_ge g w.heap.size with hlt | hge
      · exact hlt
      · rw [Array.getElem?_eq_none hge] at hh; cases hh
/-- What takeTags tells of the bytes behind both addresses. -/
def TookT (w : World) (l : List UInt8) (e : Ending) (w' : World) : Prop := ∃ v, e = .returned (.tuple #[v, .int .i64 (frOf l).T, .string (bsL (restOf l)), .int .i64 (takeE l : Int)]) ∧ TagsAt w' v (frOf l).n (frOf l).K (frOf l).V ∧ Below w.heap.size w w' ∧ ∀ (A : Addr) (n c : Nat), v = .slice (some A) n c → w.heap.size ≤ A.block
theorem tookT_err {w w' : World} {l : List UInt8} {c : Nat} (h : takeE l = c) (hc : c ≠ 0) (hb : Below w.heap.size w w') : TookT w l (.returned (.tuple #[.slice none 0 0, .int .i64 0, .string ⟨#[]⟩, .int .i64 (c : Int)])) w' := by
  obtain ⟨e1, e2⟩ := fr_err (l := l) (by rw [h]; exact hc)
  refine ⟨.slice none 0 0, by rw [e1, e2, h]; rfl, ?_, hb, fun A n c h => by cases h⟩
  rw [e1]
  exact ⟨none, 0, 0, 0, rfl, Nat.le_refl _, fun (h : 0 < 0) => absurd h (by omega), fun i (h : i < 0) => absurd h (by omega)⟩
theorem tookT_ok {w w' : World} {l : List UInt8} {k : Nat} {v : Value} {t : TypeId} (h : OkAt l k) (h1 : 14 + 4 * k ≤ l.length) (h2 : isK (kindAt l k) = false) (ho : w'.ownsRow w.heap.size t 2 v k (tagCells (fun i => (kindAt l i : Int)) (fun i => (valAt l i : Int)) k)) (hb : Below w.heap.size w w') :
    TookT w l (.returned (.tuple #[v, .int .i64 (kindAt l k : Int), .string (bsL (l.drop (14 + 4 * k))), .int .i64 0])) w' := by
  have d := take_done h h1 h2
  obtain ⟨e1, e2⟩ := fr_ok d
  refine ⟨v, by rw [e1, e2, d.1]; rfl, ?_, hb, fun A n c h => (ho.lt A.block (by rw [h]; rfl)).1⟩
  rw [e1]
  exact owns_tags ho
/-- What the loop of takeTags keeps. -/
structure TagIn (w wr : World) (l r : List UInt8) (v : Value) (k : Nat) : Prop where
  since : Below w.heap.size w wr
  ok : OkAt l k
  rest : r = l.drop (12 + 4 * k)
  own : wr.ownsRow w.heap.size 83 2 v k (tagCells (fun i => (kindAt l i : Int)) (fun i => (valAt l i : Int)) k)

set_option maxHeartbeats 3200000 in
theorem tags_any (w : World) (l : List UInt8) (hl : 12 ≤ l.length) (hm : l.length ≤ 1152921504606846976) : Calls Try.prog 46 #[.string (bsL (l.drop 12))] w (TookT w l) := by
  obtain ⟨i45, hi, hz, hs, hb⟩ := info45
  have HI : Hid (Try.prog.info? 83 = some i45 ∧ i45.zero = some (.agg #[.int .i64 0, .int .i64 0]) ∧ i45.size = 2 ∧ i45.bytes = 16) := ⟨hi, hz, hs, hb⟩
  clear hi hz hs hb
  obtain ⟨r0, hr0⟩ : ∃ r0, r0 = l.drop 12 := ⟨_, rfl⟩
  rw [← hr0]
  have START : Hid (TagIn w w l r0 (.slice none 0 0) 0) := ⟨Below.refl _ _, okAt_zero hl, hr0, World.ownsRow_nil _ _ _ _⟩
  clear hr0
  go_enter Try.func46, Try.ntmps46
  go_wp2_with fail
  go_loopg [0, 6] 3 (fun g s t wr => ∃ (k : Nat) (ao : Option Addr) (cv : Nat) (r : List UInt8), (g = 3 - k ∧ TagIn w wr l r (.slice ao k cv) k) ∧ s = .string (bsL r) ∧ t = .slice ao k cv)
  case atStart => exact ⟨0, none, 0, r0, ⟨rfl, START.out⟩, rfl, rfl⟩
  case round =>
    clear START
    obtain ⟨k, ao, cv, r, ⟨hg, hR⟩, rfl, rfl⟩ := hrel
    have HK : Hid (gk = 3 - k ∧ TagIn w wr l r (.slice ao k cv) k) := ⟨hg, hR⟩
    have hrl : r.length = l.length - (12 + 4 * k) := by rw [hR.rest, List.length_drop]
    have hk2 : k ≤ 2 := hR.ok.2.1
    have hkl : 12 + 4 * k ≤ l.length := hR.ok.1
    clear hg hR
    by_cases h1 : r.length < 2
    · go_wp2_with fail
      refine (take_short r 2 _ (by omega) (by omega) (by omega)).mono ?_
      rintro e u1 ⟨rfl, b1⟩
      go_wp2_with fail
      go_returns
      have sh : takeE l = 2 := take_short1 HK.out.2.ok (by omega)
      exact tookT_err (c := 2) sh (by decide) (bel_trans HK.out.2.since b1)
    have N1 : Hid (numL (r.take 2) = kindAt l k) := by
      show numL (r.take 2) = kindAt l k
      rw [HK.out.2.rest, num_at l _ (by omega)]; rfl
    have hkd : kindAt l k < 65536 := pairL_lt l _
    by_cases hK : isK (kindAt l k) = true
    rotate_left
    · have hK' : isK (kindAt l k) = false := by simpa using hK
      clear hK
      go_wp2_with fail
      refine (take_ok r 2 _ (by omega) (by omega) (by omega)).mono ?_
      rintro e u1 ⟨rfl, b1⟩
      rw [N1.out]
      go_wp2_with fail
      refine (kind_any (kindAt l k) _).mono ?_
      rintro e u2 ⟨rfl, rfl⟩
      go_wp2_with fail
      go_returns
      have e := tookT_ok HK.out.2.ok (by omega) hK' (owns_below HK.out.2.own b1) (bel_trans HK.out.2.since b1)
      have e2 : r.drop 2 = l.drop (14 + 4 * k) := by rw [HK.out.2.rest, List.drop_drop]; congr 1; omega
      rw [e2]
      exact e
    by_cases hk : k = 2
    · subst hk
      go_wp2_with fail
      refine (take_ok r 2 _ (by omega) (by omega) (by omega)).mono ?_
      rintro e u1 ⟨rfl, b1⟩
      rw [N1.out]
      go_wp2_with fail
      refine (kind_any (kindAt l 2) _).mono ?_
      rintro e u2 ⟨rfl, rfl⟩
      go_wp2_with fail
      go_returns
      have sh : takeE l = 9 := take_more HK.out.2.ok (by omega) hK
      exact tookT_err (c := 9) sh (by decide) (bel_trans HK.out.2.since b1)
    have hkq : ((k : Int) == 2) = false := by simp; omega
    have hkn : k < 2 := by omega
    have hd : (r.drop 2).length = r.length - 2 := by simp
    have HKK : Hid (isK (kindAt l k) = true) := hK
    by_cases h2 : r.length < 4
    · go_wp2_with fail
      refine (take_ok r 2 _ (by omega) (by omega) (by omega)).mono ?_
      rintro e u1 ⟨rfl, b1⟩
      rw [N1.out]
      go_wp2_with fail
      refine (kind_any (kindAt l k) _).mono ?_
      rintro e u2 ⟨rfl, rfl⟩
      go_wp2_with fail
      refine (take_short (r.drop 2) 2 _ (by omega) (by omega) (by omega)).mono ?_
      rintro e u3 ⟨rfl, b3⟩
      go_wp2_with fail
      go_returns
      have sh : takeE l = 2 := take_short2 HK.out.2.ok hkn (by omega) (by omega) HKK.out
      exact tookT_err (c := 2) sh (by decide) (bel_trans (bel_trans HK.out.2.since b1) b3)
    have N2 : Hid (numL ((r.drop 2).take 2) = valAt l k ∧ r.drop 4 = l.drop (12 + 4 * (k + 1))) := by
      constructor
      · rw [HK.out.2.rest, List.drop_drop, num_at l _ (by omega)]; unfold valAt; congr 1; omega
      · rw [HK.out.2.rest, List.drop_drop]; congr 1
    have hvd : valAt l k < 65536 := pairL_lt l _
    go_wp2_with fail
    refine (take_ok r 2 _ (by omega) (by omega) (by omega)).mono ?_
    rintro e u1 ⟨rfl, b1⟩
    rw [N1.out]
    go_wp2_with fail
    refine (kind_any (kindAt l k) _).mono ?_
    rintro e u2 ⟨rfl, rfl⟩
    go_wp2_with fail
    refine (take_ok (r.drop 2) 2 _ (by omega) (by omega) (by omega)).mono ?_
    rintro e u3 ⟨rfl, b3⟩
    rw [N2.out.1]
    have HO : Hid (u3.ownsRow w.heap.size 83 2 (.slice ao k cv) k (tagCells (fun i => (kindAt l i : Int)) (fun i => (valAt l i : Int)) k)) := owns_below (owns_below HK.out.2.own b1) b3
    have HS : Hid (Below w.heap.size w u3) := bel_trans (bel_trans HK.out.2.since b1) b3
    have hsz : w.heap.size ≤ u3.heap.size := HS.out.size
    go_wp2_with (at_builtin; refine wpList_append_lies _ rfl _ _ _ rfl w.heap.size 83 i45 (.agg #[.int .i64 0, .int .i64 0]) 2 16 Try.underlying38 HI.out.1 HI.out.2.1 HI.out.2.2.1 HI.out.2.2.2 rfl (by omega) (.slice ao k cv) k (tagCells (fun i => (kindAt l i : Int)) (fun i => (valAt l i : Int)) k) (by rfl) (HO.out.alloc _) ⟨u3.heap.size, 0, none⟩ 1 1 [.int .i64 (kindAt l k : Int), .int .i64 (valAt l k : Int)] (by rfl) rfl (new_tag u3 _ _ _) (tag_cell _ _) (by omega) (by unfold maxLen; omega) (by omega) (by simp; omega) _ rfl ?_; intro g cap1 w1 hown1 hgrow hat hlt1)
    go_roundg (3 - (k + 1))
    case measure => have := HK.out.1; omega
    case rel =>
      refine ⟨k + 1, _, _, r.drop 4, ⟨rfl, ?_, okAt_succ HK.out.2.ok hkn (by omega) HKK.out, N2.out.2, hown1⟩, rfl, rfl⟩
      exact (HS.out.alloc hsz _).grown hgrow (by simp; omega) fun q e => (HO.out.lt q e).1
/-- What Take tells of any bytes. -/
def Took (w : World) (l : List UInt8) (e : Ending) (w' : World) : Prop := ∃ x, e = .returned (.tuple #[x, .string (bsL (restOf l)), .int .i64 (takeE l : Int)]) ∧ FrameAt w' x (frOf l) ∧ Below w.heap.size w w'
theorem took_err {w w' : World} {l : List UInt8} {c : Nat} (h : takeE l = c) (hc : c ≠ 0) (hb : Below w.heap.size w w') : Took w l (.returned (.tuple #[.agg #[.string ⟨#[]⟩, .string ⟨#[]⟩, .slice none 0 0, .int .i64 0], .string ⟨#[]⟩, .int .i64 (c : Int)])) w' := by
  obtain ⟨e1, e2⟩ := fr_err (l := l) (by rw [h]; exact hc)
  refine ⟨_, by rw [e2, h]; rfl, ?_, hb⟩
  rw [e1]
  exact ⟨_, rfl, none, 0, 0, 0, rfl, Nat.le_refl _, fun (h : 0 < 0) => absurd h (by omega), fun i (h : i < 0) => absurd h (by omega)⟩
theorem tags_put4 {w : World} {v : Value} {n g : Nat} {K V : Nat → Int} (h : TagsAt w v n K V) (hg : ∀ (A : Addr) (c : Nat), v = .slice (some A) n c → 0 < n → A.block ≠ g) (a b c d : Value) : TagsAt (put4 w g a b c d) v n K V := by
  obtain ⟨A, cap, bk, o, h1, h2, h3, h4⟩ := h
  refine ⟨A, cap, bk, o, h1, h2, h3, fun i hi => ?_⟩
  have hne : bk ≠ g := hg ⟨bk, o, none⟩ cap (by rw [h1, h3 (by omega)]) (by omega)
  have e : (put4 w g a b c d).heap[bk]? = w.heap[bk]? := by
    unfold put4
    rw [Below.heap_setCell _ _ _ _ (by exact hne), Below.heap_setCell _ _ _ _ (by exact hne), Below.heap_setCell _ _ _ _ (by exact hne), Below.heap_setCell _ _ _ _ (by exact hne)]
  rw [World.cell?_of_block (w := w) (w' := put4 w g a b c d) (a := ⟨bk, o + i * 2, none⟩) e, World.cell?_of_block (w := w) (w' := put4 w g a b c d) (a := ⟨bk, o + i * 2 + 1, none⟩) e]
  exact h4 i hi

theorem took_ok {w u : World} {l : List UInt8} {v : Value} {g : Nat} (h : takeE l = 0) (ht : TagsAt u v (frOf l).n (frOf l).K (frOf l).V) (hf : ∀ (A : Addr) (n c : Nat), v = .slice (some A) n c → A.block ≠ g) {a b c d : Value} (hb : Below w.heap.size w (put4 u g a b c d)) :
    Took w l (.returned (.tuple #[.agg #[.string (bsL (l.take 6)), .string (bsL ((l.drop 6).take 6)), v, .int .i64 (frOf l).T], .string (bsL (restOf l)), .int .i64 0])) (put4 u g a b c d) := by
  refine ⟨_, by rw [h]; rfl, ⟨v, ?_, tags_put4 ht (fun A c e _ => hf A _ c e) _ _ _ _⟩, hb⟩
  rw [(fr_ok ⟨h, rfl⟩).1]
set_option maxHeartbeats 3200000 in
theorem etake_any (w : World) (l : List UInt8) (hm : l.length ≤ 1152921504606846976) : Calls Try.prog 23 #[.string (bsL l)] w (Took w l) := by
  have hd : (l.drop 6).length = l.length - 6 := by simp
  by_cases h1 : l.length < 6
  · go_enter Try.func23, Try.ntmps23
    go_wp2_with fail
    refine (cut_short l 6 _ (by omega) (by omega)).mono ?_
    rintro e u1 ⟨rfl, b1⟩
    have HB : Hid (Blk u1 w.heap.size 40 #[.string ⟨#[]⟩, .string ⟨#[]⟩, .slice none 0 0, .int .i64 0]) := (Blk.new w 40 #[.string ⟨#[]⟩, .string ⟨#[]⟩, .slice none 0 0, .int .i64 0]).below b1 (by simp)
    have HS : Hid (Below w.heap.size w u1) := below_since (by simpa using b1)
    have r0 : u1.cell? ⟨w.heap.size, 0, none⟩ = some (.string ⟨#[]⟩) := HB.out.cell 0
    have z0 := HB.out.frozen 0
    have r1 : u1.cell? ⟨w.heap.size, 1, none⟩ = some (.string ⟨#[]⟩) := HB.out.cell 1
    have z1 := HB.out.frozen 1
    have r2 : u1.cell? ⟨w.heap.size, 2, none⟩ = some (.slice none 0 0) := HB.out.cell 2
    have z2 := HB.out.frozen 2
    have r3 : u1.cell? ⟨w.heap.size, 3, none⟩ = some (.int .i64 0) := HB.out.cell 3
    have z3 := HB.out.frozen 3
    go_wp2_with fail
    refine bodyPost_ret (v := .tuple #[.agg #[.string ⟨#[]⟩, .string ⟨#[]⟩, .slice none 0 0, .int .i64 0], .string ⟨#[]⟩, .int .i64 2]) ?_ rfl (took_err (c := 2) (take_less (by omega)) (by decide) (put4_below HS.out (Nat.le_refl _) _ _ _ _))
    have c4 := put4_blk HB.out (.string ⟨#[]⟩) (.string ⟨#[]⟩) (.slice none 0 0) (.int .i64 0)
    have c40 := c4.cell 0
    have c41 := c4.cell 1
    have c42 := c4.cell 2
    have c43 := c4.cell 3
    change (results _ _).run _ (put4 u1 w.heap.size (.string ⟨#[]⟩) (.string ⟨#[]⟩) (.slice none 0 0) (.int .i64 0)) = .ok _ (put4 u1 w.heap.size (.string ⟨#[]⟩) (.string ⟨#[]⟩) (.slice none 0 0) (.int .i64 0))
    generalize put4 u1 w.heap.size (.string ⟨#[]⟩) (.string ⟨#[]⟩) (.slice none 0 0) (.int .i64 0) = W4 at c40 c41 c42 c43
    simp [results, Try.results23, go_sem, c40, c41, c42, c43]
  by_cases h2 : l.length < 12
  · go_enter Try.func23, Try.ntmps23
    go_wp2_with fail
    refine (cut_ok l 6 _ (by omega)).mono ?_
    rintro e u1 ⟨rfl, b1⟩
    go_wp2_with fail
    refine (cut_short (l.drop 6) 6 _ (by omega) (by omega)).mono ?_
    rintro e u2 ⟨rfl, b2⟩
    have HB : Hid (Blk u2 w.heap.size 40 #[.string ⟨#[]⟩, .string ⟨#[]⟩, .slice none 0 0, .int .i64 0]) := (Blk.new w 40 #[.string ⟨#[]⟩, .string ⟨#[]⟩, .slice none 0 0, .int .i64 0]).below (bel_trans b1 b2) (by simp)
    have HS : Hid (Below w.heap.size w u2) := below_since (by simpa using bel_trans b1 b2)
    have r0 : u2.cell? ⟨w.heap.size, 0, none⟩ = some (.string ⟨#[]⟩) := HB.out.cell 0
    have z0 := HB.out.frozen 0
    have r1 : u2.cell? ⟨w.heap.size, 1, none⟩ = some (.string ⟨#[]⟩) := HB.out.cell 1
    have z1 := HB.out.frozen 1
    have r2 : u2.cell? ⟨w.heap.size, 2, none⟩ = some (.slice none 0 0) := HB.out.cell 2
    have z2 := HB.out.frozen 2
    have r3 : u2.cell? ⟨w.heap.size, 3, none⟩ = some (.int .i64 0) := HB.out.cell 3
    have z3 := HB.out.frozen 3
    go_wp2_with fail
    refine bodyPost_ret (v := .tuple #[.agg #[.string ⟨#[]⟩, .string ⟨#[]⟩, .slice none 0 0, .int .i64 0], .string ⟨#[]⟩, .int .i64 2]) ?_ rfl (took_err (c := 2) (take_less (by omega)) (by decide) (put4_below HS.out (Nat.le_refl _) _ _ _ _))
    have c4 := put4_blk HB.out (.string ⟨#[]⟩) (.string ⟨#[]⟩) (.slice none 0 0) (.int .i64 0)
    have c40 := c4.cell 0
    have c41 := c4.cell 1
    have c42 := c4.cell 2
    have c43 := c4.cell 3
    change (results _ _).run _ (put4 u2 w.heap.size (.string ⟨#[]⟩) (.string ⟨#[]⟩) (.slice none 0 0) (.int .i64 0)) = .ok _ (put4 u2 w.heap.size (.string ⟨#[]⟩) (.string ⟨#[]⟩) (.slice none 0 0) (.int .i64 0))
    generalize put4 u2 w.heap.size (.string ⟨#[]⟩) (.string ⟨#[]⟩) (.slice none 0 0) (.int .i64 0) = W4 at c40 c41 c42 c43
    simp [results, Try.results23, go_sem, c40, c41, c42, c43]
  by_cases h0 : takeE l = 0
  rotate_left
  · have q0 : ((takeE l : Int) != 0) = true := by simp; omega
    obtain ⟨e1, e2⟩ := fr_err h0
    have HE : Hid (frOf l = zeroFr ∧ restOf l = [] ∧ takeE l ≠ 0) := ⟨e1, e2, h0⟩
    clear e1 e2 h0
    go_enter Try.func23, Try.ntmps23
    go_wp2_with fail
    refine (cut_ok l 6 _ (by omega)).mono ?_
    rintro e u1 ⟨rfl, b1⟩
    go_wp2_with fail
    refine (cut_ok (l.drop 6) 6 _ (by omega)).mono ?_
    rintro e u2 ⟨rfl, b2⟩
    go_wp2_with fail
    refine (tags_any _ l (by omega) hm).mono ?_
    rintro e u3 ⟨v, rfl, tv, b3, fv⟩
    have HB : Hid (Blk u3 w.heap.size 40 #[.string ⟨#[]⟩, .string ⟨#[]⟩, .slice none 0 0, .int .i64 0]) := (Blk.new w 40 #[.string ⟨#[]⟩, .string ⟨#[]⟩, .slice none 0 0, .int .i64 0]).below (bel_trans (bel_trans b1 b2) b3) (by simp)
    have HS : Hid (Below w.heap.size w u3) := below_since (by simpa using bel_trans (bel_trans b1 b2) b3)
    have HF : Hid (∀ (A : Addr) (n c : Nat), v = .slice (some A) n c → A.block ≠ w.heap.size) := fun A n c h e => by
      have a1 := fv A n c h
      have a2 := (bel_trans b1 b2).size
      simp at a2
      omega
    have HT : Hid (TagsAt u3 v (frOf l).n (frOf l).K (frOf l).V) := tv
    clear tv fv
    have r0 : u3.cell? ⟨w.heap.size, 0, none⟩ = some (.string ⟨#[]⟩) := HB.out.cell 0
    have z0 := HB.out.frozen 0
    have r1 : u3.cell? ⟨w.heap.size, 1, none⟩ = some (.string ⟨#[]⟩) := HB.out.cell 1
    have z1 := HB.out.frozen 1
    have r2 : u3.cell? ⟨w.heap.size, 2, none⟩ = some (.slice none 0 0) := HB.out.cell 2
    have z2 := HB.out.frozen 2
    have r3 : u3.cell? ⟨w.heap.size, 3, none⟩ = some (.int .i64 0) := HB.out.cell 3
    have z3 := HB.out.frozen 3
    go_wp2_with fail
    refine bodyPost_ret (v := .tuple #[.agg #[.string ⟨#[]⟩, .string ⟨#[]⟩, .slice none 0 0, .int .i64 0], .string ⟨#[]⟩, .int .i64 (takeE l : Int)]) ?_ rfl (took_err (c := takeE l) rfl HE.out.2.2 (put4_below HS.out (Nat.le_refl _) _ _ _ _))
    have c4 := put4_blk HB.out (.string ⟨#[]⟩) (.string ⟨#[]⟩) (.slice none 0 0) (.int .i64 0)
    have c40 := c4.cell 0
    have c41 := c4.cell 1
    have c42 := c4.cell 2
    have c43 := c4.cell 3
    change (results _ _).run _ (put4 u3 w.heap.size (.string ⟨#[]⟩) (.string ⟨#[]⟩) (.slice none 0 0) (.int .i64 0)) = .ok _ (put4 u3 w.heap.size (.string ⟨#[]⟩) (.string ⟨#[]⟩) (.slice none 0 0) (.int .i64 0))
    generalize put4 u3 w.heap.size (.string ⟨#[]⟩) (.string ⟨#[]⟩) (.slice none 0 0) (.int .i64 0) = W4 at c40 c41 c42 c43
    simp [results, Try.results23, go_sem, c40, c41, c42, c43]
  have H0 : Hid (takeE l = 0) := h0
  have q0 : ((takeE l : Int) != 0) = false := by simp; omega
  clear h0
  go_enter Try.func23, Try.ntmps23
  go_wp2_with fail
  refine (cut_ok l 6 _ (by omega)).mono ?_
  rintro e u1 ⟨rfl, b1⟩
  go_wp2_with fail
  refine (cut_ok (l.drop 6) 6 _ (by omega)).mono ?_
  rintro e u2 ⟨rfl, b2⟩
  go_wp2_with fail
  refine (tags_any _ l (by omega) hm).mono ?_
  rintro e u3 ⟨v, rfl, tv, b3, fv⟩
  have HB : Hid (Blk u3 w.heap.size 40 #[.string ⟨#[]⟩, .string ⟨#[]⟩, .slice none 0 0, .int .i64 0]) := (Blk.new w 40 #[.string ⟨#[]⟩, .string ⟨#[]⟩, .slice none 0 0, .int .i64 0]).below (bel_trans (bel_trans b1 b2) b3) (by simp)
  have HS : Hid (Below w.heap.size w u3) := below_since (by simpa using bel_trans (bel_trans b1 b2) b3)
  have HF : Hid (∀ (A : Addr) (n c : Nat), v = .slice (some A) n c → A.block ≠ w.heap.size) := fun A n c h e => by
    have a1 := fv A n c h
    have a2 := (bel_trans b1 b2).size
    simp at a2
    omega
  have HT : Hid (TagsAt u3 v (frOf l).n (frOf l).K (frOf l).V) := tv
  obtain ⟨Av, cpv, rfl⟩ := tv.form
  clear tv fv
  have r0 : u3.cell? ⟨w.heap.size, 0, none⟩ = some (.string ⟨#[]⟩) := HB.out.cell 0
  have z0 := HB.out.frozen 0
  have r1 : u3.cell? ⟨w.heap.size, 1, none⟩ = some (.string ⟨#[]⟩) := HB.out.cell 1
  have z1 := HB.out.frozen 1
  have r2 : u3.cell? ⟨w.heap.size, 2, none⟩ = some (.slice none 0 0) := HB.out.cell 2
  have z2 := HB.out.frozen 2
  have r3 : u3.cell? ⟨w.heap.size, 3, none⟩ = some (.int .i64 0) := HB.out.cell 3
  have z3 := HB.out.frozen 3
  go_wp2_with fail
  refine bodyPost_ret (v := .tuple #[.agg #[.string (bsL (l.take 6)), .string (bsL ((l.drop 6).take 6)), .slice Av (frOf l).n cpv, .int .i64 (frOf l).T], .string (bsL (restOf l)), .int .i64 0]) ?_ rfl (took_ok H0.out HT.out HF.out (put4_below HS.out (Nat.le_refl _) _ _ _ _))
  have c4 := put4_blk HB.out (.string (bsL (l.take 6))) (.string (bsL ((l.drop 6).take 6))) (.slice Av (frOf l).n cpv) (.int .i64 (frOf l).T)
  have c40 := c4.cell 0
  have c41 := c4.cell 1
  have c42 := c4.cell 2
  have c43 := c4.cell 3
  change (results _ _).run _ (put4 u3 w.heap.size (.string (bsL (l.take 6))) (.string (bsL ((l.drop 6).take 6))) (.slice Av (frOf l).n cpv) (.int .i64 (frOf l).T)) = .ok _ (put4 u3 w.heap.size (.string (bsL (l.take 6))) (.string (bsL ((l.drop 6).take 6))) (.slice Av (frOf l).n cpv) (.int .i64 (frOf l).T))
  generalize put4 u3 w.heap.size (.string (bsL (l.take 6))) (.string (bsL ((l.drop 6).take 6))) (.slice Av (frOf l).n cpv) (.int .i64 (frOf l).T) = W4 at c40 c41 c42 c43
  simp [results, Try.results23, go_sem, c40, c41, c42, c43]
end Go.Proofs.Yticopigpgaomjaa.L5
