/-
  A header as the document's: what the laws' own function makes of one.
-/
import Derived.Test.YtjbpbahaekbmlaaIp6Mem
namespace Go.Proofs.Ytjbpbahaekbmlaa
open Go.RowKit Oc Ip6 Go.Deep
set_option linter.unusedVariables false

/-- Seven stores. -/
def put7 (w : World) (g : Nat) (a0 a1 a2 a3 a4 a5 a6 : Value) : World := (((((((w.setCell ⟨g, 0, none⟩ a0).setCell ⟨g, 1, none⟩ a1).setCell ⟨g, 2, none⟩ a2).setCell ⟨g, 3, none⟩ a3).setCell ⟨g, 4, none⟩ a4).setCell ⟨g, 5, none⟩ a5).setCell ⟨g, 6, none⟩ a6)
theorem put7_eq (w : World) (g : Nat) (a0 a1 a2 a3 a4 a5 a6 : Value) : put7 w g a0 a1 a2 a3 a4 a5 a6 = putCells w g 0 [a0, a1, a2, a3, a4, a5, a6] := by
  simp only [putCells, put7]
theorem put7_below {Bd : Nat} {w wr : World} {g : Nat} (h : Below Bd w wr) (hg : Bd ≤ g) (a0 a1 a2 a3 a4 a5 a6 : Value) : Below Bd w (put7 wr g a0 a1 a2 a3 a4 a5 a6) := by
  rw [put7_eq]; exact putCells_below hg _ _ 0 h
theorem put7_blk {w : World} {g : Nat} {t : TypeId} {x0 x1 x2 x3 x4 x5 x6 : Value} (h : Blk w g t #[x0, x1, x2, x3, x4, x5, x6]) (a0 a1 a2 a3 a4 a5 a6 : Value) : Blk (put7 w g a0 a1 a2 a3 a4 a5 a6) g t #[a0, a1, a2, a3, a4, a5, a6] := by
  rw [put7_eq]; exact putCells_blk [a0, a1, a2, a3, a4, a5, a6] [x0, x1, x2, x3, x4, x5, x6] [] w 0 rfl rfl h
theorem putCells_other {g q : Nat} (h : q ≠ g) : ∀ (vs : List Value) (wr : World) (i : Nat), (putCells wr g i vs).heap[q]? = wr.heap[q]?
  | [], _, _ => rfl
  | v :: vs, wr, i => by rw [putCells, putCells_other h vs _ (i + 1), Below.heap_setCell _ _ _ _ (by exact h)]
theorem put7_other (w : World) {g q : Nat} (h : q ≠ g) (a0 a1 a2 a3 a4 a5 a6 : Value) : (put7 w g a0 a1 a2 a3 a4 a5 a6).heap[q]? = w.heap[q]? := by rw [put7_eq, putCells_other h]
theorem put7_owns {w : World} {g base : Nat} {e : TypeId} {size : Nat} {v : Value} {n : Nat} {xs : List Value} (h : w.ownsRow base e size v n xs) (hg : g < base) (a0 a1 a2 a3 a4 a5 a6 : Value) : (put7 w g a0 a1 a2 a3 a4 a5 a6).ownsRow base e size v n xs := ownsRow_setCell_below (ownsRow_setCell_below (ownsRow_setCell_below (ownsRow_setCell_below (ownsRow_setCell_below (ownsRow_setCell_below (ownsRow_setCell_below (h) (by exact hg) a0) (by exact hg) a1) (by exact hg) a2) (by exact hg) a3) (by exact hg) a4) (by exact hg) a5) (by exact hg) a6

/-- The cells of extensions. -/
def exCells (c : List Ex) : List Value := c.flatMap fun x => [.int .i64 x.kind, .string (bsL x.data)]
theorem exCells_app (c : List Ex) (x : Ex) : exCells (c ++ [x]) = exCells c ++ [.int .i64 x.kind, .string (bsL x.data)] := by simp [exCells]
theorem exCells_len (c : List Ex) : (exCells c).length = c.length * 2 := by
  induction c with
  | nil => rfl
  | cons x c ih => simp only [exCells, List.flatMap_cons, List.length_append, List.length_cons, List.length_nil] at ih ⊢; omega
theorem exCells_get : ∀ (c : List Ex) (i : Nat) (x : Ex), c[i]? = some x → (exCells c)[i * 2]? = some (.int .i64 x.kind) ∧ (exCells c)[i * 2 + 1]? = some (.string (bsL x.data))
  | [], i, x, h => by simp at h
  | y :: c, 0, x, h => by
    simp only [List.getElem?_cons_zero, Option.some.injEq] at h
    subst h
    exact ⟨rfl, rfl⟩
  | y :: c, i + 1, x, h => by
    have ih := exCells_get c i x (by simpa using h)
    have e : exCells (y :: c) = .int .i64 y.kind :: .string (bsL y.data) :: exCells c := rfl
    rw [e, show (i + 1) * 2 = i * 2 + 1 + 1 by omega]
    simp only [List.getElem?_cons_succ]
    exact ih
theorem owns_ch {w : World} {N k : Nat} {t : TypeId} {v : Value} {c : List Ex} (h : w.ownsRow N t 2 v k (exCells c)) (hk : c.length = k) : ChAt w v c := by
  subst hk
  rcases h.2 with ⟨rfl, h0⟩ | ⟨g, cap, cur, rfl, _, hg, hn, _, _, hx⟩
  · exact ⟨none, 0, 0, 0, by rw [h0], by omega, fun h => by omega, fun i x hi => by rw [List.getElem?_eq_none (by omega)] at hi; cases hi⟩
  · refine ⟨_, cap, g, 0, rfl, hn, fun _ => rfl, fun i x hi => ?_⟩
    obtain ⟨g1, g2⟩ := exCells_get c i x hi
    have hl : i < c.length := by
      rcases Nat.lt_or_ge i c.length with h1 | h1
      · exact h1
      · rw [List.getElem?_eq_none h1] at hi; cases hi
    have e1 := h.cellAt (j := i * 2) (by omega)
    have e2 := h.cellAt (j := i * 2 + 1) (by omega)
    rw [Nat.zero_add, e1, e2]
    exact ⟨g1, g2⟩
theorem new_pair (w : World) (t : TypeId) (x y : Value) : ∀ (j : Nat) (u : Value), [x, y][j]? = some u → (w.alloc (.cells #[x, y] t)).cell? ((⟨w.heap.size, 0, none⟩ : Addr).add j) = some u :=
  World.news_of_block (blk_alloc_new w (.cells #[x, y] t))
theorem ex_cell (K : Int) (D : List UInt8) : ∀ u ∈ [Value.int .i64 K, Value.string (bsL D)], u.oneCell' = true := fun u hu => by
  simp at hu
  rcases hu with rfl | rfl <;> rfl
theorem infoT (t : TypeId) (h : (Try.prog.info? t).map (fun i => (i.zero, i.size, i.bytes)) = some (some (.agg #[.int .i64 0, .string ⟨#[]⟩]), 2, 24)) : ∃ i, Try.prog.info? t = some i ∧ i.zero = some (.agg #[.int .i64 0, .string ⟨#[]⟩]) ∧ i.size = 2 ∧ i.bytes = 24 := by
  obtain ⟨i, hi, hzz⟩ := Option.map_eq_some_iff.1 h
  simp only [Prod.mk.injEq] at hzz
  exact ⟨i, hi, hzz⟩
theorem infoR : ∃ i, Try.prog.info? 58 = some i ∧ i.zero = some (.agg #[.int .i64 0, .string ⟨#[]⟩]) ∧ i.size = 2 ∧ i.bytes = 24 := infoT 58 (by kernel_rfl)
theorem infoH : ∃ i, Try.prog.info? 49 = some i ∧ i.zero = some (.agg #[.int .i64 0, .string ⟨#[]⟩]) ∧ i.size = 2 ∧ i.bytes = 24 := infoT 49 (by kernel_rfl)

/-- What the loop of 'ref' keeps. -/
structure RefIn (w wr : World) (c b h p : Int) (s d : List UInt8) (v : Value) (k : Nat) (P : List Ex) : Prop where
  since : Below w.heap.size w wr
  size : w.heap.size + 3 ≤ wr.heap.size
  res : Blk wr (w.heap.size + 1) 31 #[.int .i64 0, .int .i64 0, .int .i64 0, .int .i64 0, .string ⟨#[]⟩, .string ⟨#[]⟩, .slice none 0 0]
  fr : Blk wr (w.heap.size + 1 + 1) 31 #[.int .i64 c, .int .i64 b, .int .i64 h, .int .i64 p, .string (bsL s), .string (bsL d), v]
  own : wr.ownsRow (w.heap.size + 3) 58 2 v k (exCells P)
theorem RefIn.step {w wr w1 : World} {c b h p : Int} {s d : List UInt8} {v v' : Value} {k : Nat} {P : List Ex} {K : Int} {D : List UInt8} {x y : Obj} (h0 : RefIn w wr c b h p s d v k P)
    (hown : w1.ownsRow (w.heap.size + 3) 58 2 v' (k + 1) (exCells P ++ [.int .i64 K, .string (bsL D)])) (hg : ((wr.alloc x).alloc y).grownBy w1 v.ownBlock) :
    Blk w1 (w.heap.size + 1 + 1) 31 #[.int .i64 c, .int .i64 b, .int .i64 h, .int .i64 p, .string (bsL s), .string (bsL d), v] ∧ RefIn w (w1.setCell ⟨w.heap.size + 1 + 1, 6, none⟩ v') c b h p s d v' (k + 1) (P ++ [⟨K, D⟩]) := by
  have far : ∀ q, v.ownBlock = some q → w.heap.size + 3 ≤ q := fun q e => (h0.own.lt q e).1
  have sz := h0.size
  have b1 : Blk w1 (w.heap.size + 1) 31 #[.int .i64 0, .int .i64 0, .int .i64 0, .int .i64 0, .string ⟨#[]⟩, .string ⟨#[]⟩, .slice none 0 0] := ((h0.res.alloc x).alloc y).grown hg fun e => by have := far _ e.symm; omega
  have b2 : Blk w1 (w.heap.size + 1 + 1) 31 #[.int .i64 c, .int .i64 b, .int .i64 h, .int .i64 p, .string (bsL s), .string (bsL d), v] := ((h0.fr.alloc x).alloc y).grown hg fun e => by have := far _ e.symm; omega
  have s1 : Below w.heap.size w w1 := ((h0.since.alloc h0.since.size x).alloc (by have := h0.since.size; simp; omega) y).grown hg (by have := h0.since.size; simp; omega) fun q e => by have := far q e; omega
  have z1 := hg.size
  simp only [World.size_alloc] at z1
  refine ⟨b2, s1.setCell (by show w.heap.size ≤ w.heap.size + 1 + 1; omega) _, ?_, b1.other (by show w.heap.size + 1 ≠ w.heap.size + 1 + 1; omega) _, b2.set 6 v', ?_⟩
  · have : (w1.setCell ⟨w.heap.size + 1 + 1, 6, none⟩ v').heap.size = w1.heap.size := by simp [World.setCell]
    omega
  · rw [exCells_app]
    exact ownsRow_setCell_below hown (by show w.heap.size + 1 + 1 < w.heap.size + 3; omega) _
/-- A header that is made. -/
def NewH (w : World) (F : Hd) (e : Ending) (w' : World) : Prop := ∃ x, e = .returned x ∧ HdAt w' x F ∧ Below w.heap.size w w'
theorem take_ex {C : List Ex} {k : Nat} {x : Ex} (h : C[k]? = some x) : C.take k ++ [x] = C.take (k + 1) := by
  rw [List.take_add_one, h]; rfl
set_option maxHeartbeats 3200000 in
theorem ref_any (w : World) (x : Value) (F : Hd) (hF : HdAt w x F) (hn : F.ch.length * 24 ≤ 140737488355328) : Calls Try.prog 12 #[x] w (NewH w F) := by
  obtain ⟨c, b, h, p, s, d, C⟩ := F
  obtain ⟨v, rfl, hv⟩ := hF
  simp only at hn hv ⊢
  obtain ⟨A, cap, g, o, rfl, h2, h4⟩ := hv.read
  clear hv
  obtain ⟨n, hC⟩ : ∃ n, C.length = n := ⟨_, rfl⟩
  rw [hC] at h2 h4 hn ⊢
  have HC : Hid (C.length = n) := hC
  have cell : Hid (∀ i, i < n → A = some ⟨g, o, none⟩ ∧ ∃ (K : Int) (D : List UInt8), C[i]? = some ⟨K, D⟩ ∧ g < w.heap.size ∧ w.cell? ⟨g, o + i * 2, none⟩ = some (.int .i64 K) ∧ w.cell? ⟨g, o + i * 2 + 1, none⟩ = some (.string (bsL D))) := h4
  clear h4 hC
  obtain ⟨iR, hi, hz, hs, hb⟩ := infoR
  have HI : Hid (Try.prog.info? 58 = some iR ∧ iR.zero = some (.agg #[.int .i64 0, .string ⟨#[]⟩]) ∧ iR.size = 2 ∧ iR.bytes = 24) := ⟨hi, hz, hs, hb⟩
  clear hi hz hs hb
  go_enter Try.func12, Try.ntmps12
  go_wp2_with fail
  have START : Hid (RefIn w (((w.alloc (.cells #[.int .i64 c, .int .i64 b, .int .i64 h, .int .i64 p, .string (bsL s), .string (bsL d), .slice A n cap] 25)).alloc (.cells #[.int .i64 0, .int .i64 0, .int .i64 0, .int .i64 0, .string ⟨#[]⟩, .string ⟨#[]⟩, .slice none 0 0] 31)).alloc (.cells #[.int .i64 c, .int .i64 b, .int .i64 h, .int .i64 p, .string (bsL s), .string (bsL d), .slice none 0 0] 31)) c b h p s d (.slice none 0 0) 0 (C.take 0)) := by
    refine ⟨(((Below.refl _ _).alloc (Nat.le_refl _) _).alloc (by simp) _).alloc (by simp; omega) _, by simp, ?_, ?_, World.ownsRow_nil _ _ _ _⟩
    · have e := (Blk.new (w.alloc (.cells #[.int .i64 c, .int .i64 b, .int .i64 h, .int .i64 p, .string (bsL s), .string (bsL d), .slice A n cap] 25)) 31 #[.int .i64 0, .int .i64 0, .int .i64 0, .int .i64 0, .string ⟨#[]⟩, .string ⟨#[]⟩, .slice none 0 0]).alloc (.cells #[.int .i64 c, .int .i64 b, .int .i64 h, .int .i64 p, .string (bsL s), .string (bsL d), .slice none 0 0] 31)
      simpa using e
    · have e := Blk.new ((w.alloc (.cells #[.int .i64 c, .int .i64 b, .int .i64 h, .int .i64 p, .string (bsL s), .string (bsL d), .slice A n cap] 25)).alloc (.cells #[.int .i64 0, .int .i64 0, .int .i64 0, .int .i64 0, .string ⟨#[]⟩, .string ⟨#[]⟩, .slice none 0 0] 31)) 31 #[.int .i64 c, .int .i64 b, .int .i64 h, .int .i64 p, .string (bsL s), .string (bsL d), .slice none 0 0]
      simpa using e
  go_loopg [22] n (fun g i wr => ∃ (k : Nat) (ao : Option Addr) (cv : Nat), (g = n - k ∧ k ≤ n ∧ RefIn w wr c b h p s d (.slice ao k cv) k (C.take k)) ∧ i = .int .i64 (k : Int))
  case atStart => exact ⟨0, none, 0, ⟨rfl, by omega, START.out⟩, rfl⟩
  case round =>
    clear START
    obtain ⟨k, ao, cv, ⟨hg, hk, hR⟩, rfl⟩ := hrel
    have HK : Hid (gk = n - k ∧ RefIn w wr c b h p s d (.slice ao k cv) k (C.take k)) := ⟨hg, hR⟩
    have hsz := hR.size
    have f6 : wr.cell? ⟨w.heap.size + 1 + 1, 6, none⟩ = some (.slice ao k cv) := hR.fr.cell 6
    have hl2 : w.heap.size + 1 + 1 < wr.heap.size := by omega
    clear hg
    by_cases hz : k < n
    · obtain ⟨rfl, K, D, hx, hb, e1, e2⟩ := cell.out k hz
      have t1 := (hR.since.cell (p := ⟨g, o + k * 2, none⟩) hb).trans e1
      have t2 := (hR.since.cell (p := ⟨g, o + k * 2 + 1, none⟩) hb).trans e2
      have bn : (k : Int) < n := by omega
      have HX : Hid (C.take k ++ [⟨K, D⟩] = C.take (k + 1)) := take_ex hx
      clear hR e1 e2 hx
      have HO : Hid (wr.ownsRow (w.heap.size + 3) 58 2 (.slice ao k cv) k (exCells (C.take k))) := HK.out.2.own
      have NW : Hid (∀ (j : Nat) (u : Value), [Value.int .i64 K, .string (bsL D)][j]? = some u → ((wr.alloc (.cells #[.int .i64 K, .string (bsL D)] 49)).alloc (.cells #[.int .i64 K, .string (bsL D)] 58)).cell? ((⟨wr.heap.size + 1, 0, none⟩ : Addr).add j) = some u) := by
        have e := new_pair (wr.alloc (.cells #[.int .i64 K, .string (bsL D)] 49)) 58 (.int .i64 K) (.string (bsL D))
        simp only [World.size_alloc] at e
        exact e
      have STEP : Hid (∀ (g1 cap1 : Nat) (w1 : World), w1.ownsRow (w.heap.size + 3) 58 2 (.slice (some ⟨g1, 0, none⟩) (k + 1) cap1) (k + 1) (exCells (C.take k) ++ [.int .i64 K, .string (bsL D)]) → ((wr.alloc (.cells #[.int .i64 K, .string (bsL D)] 49)).alloc (.cells #[.int .i64 K, .string (bsL D)] 58)).grownBy w1 (Value.slice ao k cv).ownBlock → Blk w1 (w.heap.size + 1 + 1) 31 #[.int .i64 c, .int .i64 b, .int .i64 h, .int .i64 p, .string (bsL s), .string (bsL d), .slice ao k cv] ∧ RefIn w (w1.setCell ⟨w.heap.size + 1 + 1, 6, none⟩ (.slice (some ⟨g1, 0, none⟩) (k + 1) cap1)) c b h p s d (.slice (some ⟨g1, 0, none⟩) (k + 1) cap1) (k + 1) (C.take (k + 1))) := fun g1 cap1 w1 h1 h2 => by
        have st := HK.out.2.step h1 h2
        rw [HX.out] at st
        exact st
      go_wp2_with (at_builtin; refine wpList_append_lies _ rfl _ _ _ rfl (w.heap.size + 3) 58 iR (.agg #[.int .i64 0, .string ⟨#[]⟩]) 2 24 Try.underlying29 HI.out.1 HI.out.2.1 HI.out.2.2.1 HI.out.2.2.2 rfl (by omega) (.slice ao k cv) k (exCells (C.take k)) (by rfl) ((HO.out.alloc _).alloc _) ⟨wr.heap.size + 1, 0, none⟩ 1 1 [.int .i64 K, .string (bsL D)] (by rfl) rfl NW.out (ex_cell _ _) (by omega) (by unfold maxLen; omega) (by omega) (by simp; omega) _ rfl ?_; intro g1 cap1 w1 hown1 hgrow hat hlt1; have ST : Hid (_ ∧ _) := STEP.out g1 cap1 w1 hown1 hgrow; have g2 : w1.cell? ⟨w.heap.size + 1 + 1, 6, none⟩ = some (.slice ao k cv) := ST.out.1.cell 6; have g3 := ST.out.1.frozen 6; clear hown1 hgrow hat hlt1)
      go_roundg (n - (k + 1))
      case measure => have := HK.out.1; omega
      case rel => exact ⟨k + 1, _, _, ⟨rfl, by omega, ST.out.2⟩, by go_num⟩
    · have e : k = n := by omega
      subst e
      have f0 : wr.cell? ⟨w.heap.size + 1 + 1, 0, none⟩ = some (.int .i64 c) := hR.fr.cell 0
      have f1 : wr.cell? ⟨w.heap.size + 1 + 1, 1, none⟩ = some (.int .i64 b) := hR.fr.cell 1
      have f2 : wr.cell? ⟨w.heap.size + 1 + 1, 2, none⟩ = some (.int .i64 h) := hR.fr.cell 2
      have f3 : wr.cell? ⟨w.heap.size + 1 + 1, 3, none⟩ = some (.int .i64 p) := hR.fr.cell 3
      have f4 : wr.cell? ⟨w.heap.size + 1 + 1, 4, none⟩ = some (.string (bsL s)) := hR.fr.cell 4
      have f5 : wr.cell? ⟨w.heap.size + 1 + 1, 5, none⟩ = some (.string (bsL d)) := hR.fr.cell 5
      have r0 : wr.cell? ⟨w.heap.size + 1, 0, none⟩ = some (.int .i64 0) := hR.res.cell 0
      have r1 : wr.cell? ⟨w.heap.size + 1, 1, none⟩ = some (.int .i64 0) := hR.res.cell 1
      have r2 : wr.cell? ⟨w.heap.size + 1, 2, none⟩ = some (.int .i64 0) := hR.res.cell 2
      have r3 : wr.cell? ⟨w.heap.size + 1, 3, none⟩ = some (.int .i64 0) := hR.res.cell 3
      have r4 : wr.cell? ⟨w.heap.size + 1, 4, none⟩ = some (.string ⟨#[]⟩) := hR.res.cell 4
      have r5 : wr.cell? ⟨w.heap.size + 1, 5, none⟩ = some (.string ⟨#[]⟩) := hR.res.cell 5
      have r6 : wr.cell? ⟨w.heap.size + 1, 6, none⟩ = some (.slice none 0 0) := hR.res.cell 6
      have z0 := hR.res.frozen 0
      have z1 := hR.res.frozen 1
      have z2 := hR.res.frozen 2
      have z3 := hR.res.frozen 3
      have z4 := hR.res.frozen 4
      have z5 := hR.res.frozen 5
      have z6 := hR.res.frozen 6
      have OW : Hid (wr.ownsRow (w.heap.size + 3) 58 2 (.slice ao k cv) k (exCells C)) := by
        have := hR.own
        rw [List.take_of_length_le (by have := HC.out; omega)] at this
        exact this
      clear hR
      go_wp2_with fail
      refine bodyPost_ret (v := .agg #[.int .i64 c, .int .i64 b, .int .i64 h, .int .i64 p, .string (bsL s), .string (bsL d), .slice ao k cv]) ?_ rfl ⟨_, rfl, ⟨_, rfl, owns_ch (put7_owns OW.out (g := w.heap.size + 1) (by omega) (.int .i64 c) (.int .i64 b) (.int .i64 h) (.int .i64 p) (.string (bsL s)) (.string (bsL d)) (.slice ao k cv)) HC.out⟩, put7_below HK.out.2.since (by omega) (.int .i64 c) (.int .i64 b) (.int .i64 h) (.int .i64 p) (.string (bsL s)) (.string (bsL d)) (.slice ao k cv)⟩
      have c7 := put7_blk (t := 31) HK.out.2.res (.int .i64 c) (.int .i64 b) (.int .i64 h) (.int .i64 p) (.string (bsL s)) (.string (bsL d)) (.slice ao k cv)
      have c70 := c7.cell 0
      have c71 := c7.cell 1
      have c72 := c7.cell 2
      have c73 := c7.cell 3
      have c74 := c7.cell 4
      have c75 := c7.cell 5
      have c76 := c7.cell 6
      change (results _ _).run _ (put7 wr (w.heap.size + 1) (.int .i64 c) (.int .i64 b) (.int .i64 h) (.int .i64 p) (.string (bsL s)) (.string (bsL d)) (.slice ao k cv)) = .ok _ (put7 wr (w.heap.size + 1) (.int .i64 c) (.int .i64 b) (.int .i64 h) (.int .i64 p) (.string (bsL s)) (.string (bsL d)) (.slice ao k cv))
      generalize put7 wr (w.heap.size + 1) (.int .i64 c) (.int .i64 b) (.int .i64 h) (.int .i64 p) (.string (bsL s)) (.string (bsL d)) (.slice ao k cv) = W7 at c70 c71 c72 c73 c74 c75 c76
      simp [results, Try.results12, go_sem, c70, c71, c72, c73, c74, c75, c76]
end Go.Proofs.Ytjbpbahaekbmlaa
