/-
  Put: what it answers of any header.
-/
import Derived.Test.YtjbpbahaekbmlaaIp6Right
import Derived.Test.YtjbpbahaekbmlaaIp6Ref
import Derived.Test.YtjbpbahaekbmlaaJoin
import Derived.Deep.Cut
import Derived.Deep.CutRange
namespace Go.Proofs.Ytjbpbahaekbmlaa
open Go.RowKit Oc Ip6 Go.Deep
set_option linter.unusedVariables false

theorem drop_ex {C : List Ex} {k : Nat} {x : Ex} (h : C[k]? = some x) : C.drop k = x :: C.drop (k + 1) := by
  have hk : k < C.length := by
    rcases Nat.lt_or_ge k C.length with h1 | h1
    · exact h1
    · rw [List.getElem?_eq_none h1] at h; cases h
  rw [List.drop_eq_getElem_cons hk]
  rw [List.getElem?_eq_getElem hk] at h
  cases h
  rfl
theorem headK_at {C : List Ex} {k : Nat} {x : Ex} (h : C[k]? = some x) (p : Int) : headK (C.drop k) p = x.kind := by rw [drop_ex h]; rfl
theorem headK_end {C : List Ex} {k : Nat} (h : C.length ≤ k) (p : Int) : headK (C.drop k) p = p := by rw [List.drop_eq_nil_of_le h]; rfl
set_option maxHeartbeats 800000 in
theorem kind_any (w : World) (x : Value) (F : Hd) (k : Nat) (hF : HdAt w x F) (hk : k ≤ F.ch.length) (hn : F.ch.length ≤ 9223372036854775807) : Calls Try.prog 28 #[x, .int .i64 (k : Int)] w fun e w' => e = .returned (.int .i64 (headK (F.ch.drop k) F.pro)) ∧ Below w.heap.size w w' := by
  obtain ⟨c, b, h, p, s, d, C⟩ := F
  obtain ⟨v, rfl, hv⟩ := hF
  simp only at hn hv ⊢
  obtain ⟨A, cap, g, o, rfl, h2, h4⟩ := hv.read
  clear hv
  obtain ⟨n, hC⟩ : ∃ n, C.length = n := ⟨_, rfl⟩
  rw [hC] at h2 h4 hn ⊢
  have HC : Hid (C.length = n) := hC
  have cell : Hid (∀ i, i < n → A = some ⟨g, o, none⟩ ∧ ∃ (K : Int) (D : List UInt8), C[i]? = some ⟨K, D⟩ ∧ g < w.heap.size ∧ w.cell? ⟨g, o + i * 2, none⟩ = some (.int .i64 K) ∧ w.cell? ⟨g, o + i * 2 + 1, none⟩ = some (.string (bsL D))) := h4
  clear h4 hC
  have B1 : Hid (Below w.heap.size w (w.alloc (.cells #[.int .i64 c, .int .i64 b, .int .i64 h, .int .i64 p, .string (bsL s), .string (bsL d), .slice A n cap] 25))) := bel_alloc _ _
  by_cases hz : k < n
  · obtain ⟨rfl, K, D, hx, hb, e1, e2⟩ := cell.out k hz
    have E : Hid (headK (C.drop k) p = K) := headK_at hx p
    have bn : (k : Int) < n := by omega
    clear hx
    go_enter Try.func28, Try.ntmps28
    go_wp2_with fail
    go_ret
    exact ⟨by rw [E.out]; rfl, B1.out⟩
  · have E : Hid (headK (C.drop k) p = p) := headK_end (by have := HC.out; omega) p
    have bn : ¬ (k : Int) < n := by omega
    go_enter Try.func28, Try.ntmps28
    go_wp2_with fail
    go_ret
    exact ⟨by rw [E.out]; rfl, B1.out⟩
set_option maxHeartbeats 400000 in
theorem join_none (w : World) : Calls Try.prog 37 #[.slice none 0 0, .string ⟨#[]⟩] w fun e w' => e = .returned (.string ⟨#[]⟩) ∧ w' = w := by
  go_enter Try.func37, Try.ntmps37
  go_wp2
  go_ret
  exact ⟨rfl, rfl⟩
theorem infoS' : (Try.prog.info? 9).map (fun i => (i.zero, i.size, i.bytes)) = some (some (.string ⟨#[]⟩), 1, 16) := by kernel_rfl
theorem infoS : ∃ i, Try.prog.info? 9 = some i ∧ i.zero = some (.string ⟨#[]⟩) ∧ i.size = 1 ∧ i.bytes = 16 := by
  obtain ⟨i, hi, hzz⟩ := Option.map_eq_some_iff.1 infoS'
  simp only [Prod.mk.injEq] at hzz
  exact ⟨i, hi, hzz⟩
theorem new_one (w : World) (t : TypeId) (x : Value) : ∀ (j : Nat) (u : Value), [x][j]? = some u → (w.alloc (.cells #[x] t)).cell? ((⟨w.heap.size, 0, none⟩ : Addr).add j) = some u :=
  World.news_of_block (blk_alloc_new w (.cells #[x] t))
theorem str_one (a : List UInt8) : ∀ u ∈ [Value.string (bsL a)], u.oneCell' = true := fun u hu => by
  simp at hu
  rcases hu with rfl
  rfl
/-- What chainBytes keeps: the header's box, the parts. -/
structure PIn (w wr : World) (BX : Array Value) (v : Value) (m : Nat) (X : List (List UInt8)) : Prop where
  since : Below w.heap.size w wr
  size : w.heap.size + 1 ≤ wr.heap.size
  box : Blk wr w.heap.size 25 BX
  own : wr.ownsRow (w.heap.size + 1) 9 1 v m (strCells X)
/-- And the extension of the round. -/
structure PX (w wr : World) (BX : Array Value) (v : Value) (m : Nat) (X : List (List UInt8)) (gx : Nat) (K : Int) (D : List UInt8) : Prop where
  pin : PIn w wr BX v m X
  ext : Blk wr gx 49 #[.int .i64 K, .string (bsL D)]
  far : ∀ q, v.ownBlock = some q → q ≠ gx
theorem PIn.ext {w wr : World} {BX : Array Value} {v : Value} {m : Nat} {X : List (List UInt8)} (h : PIn w wr BX v m X) (K : Int) (D : List UInt8) : PX w (wr.alloc (.cells #[.int .i64 K, .string (bsL D)] 49)) BX v m X wr.heap.size K D := by
  have sz := h.size
  refine ⟨⟨h.since.alloc h.since.size _, by simp; omega, h.box.alloc _, h.own.alloc _⟩, Blk.new _ _ _, fun q e => ?_⟩
  have := (h.own.lt q e).2
  omega
theorem PX.since {w wr u : World} {BX : Array Value} {v : Value} {m gx : Nat} {X : List (List UInt8)} {K : Int} {D : List UInt8} (h : PX w wr BX v m X gx K D) (hb : Below wr.heap.size wr u) : PX w u BX v m X gx K D := by
  refine ⟨⟨bel_trans h.pin.since hb, by have := h.pin.size; have := hb.size; omega, h.pin.box.since hb, owns_below h.pin.own hb⟩, h.ext.since hb, h.far⟩
theorem PX.app {w wr w1 : World} {BX : Array Value} {v : Value} {m gx g cap : Nat} {X : List (List UInt8)} {K : Int} {D Y : List UInt8} {y : Obj} (h : PX w wr BX v m X gx K D) (hown : w1.ownsRow (w.heap.size + 1) 9 1 (.slice (some ⟨g, 0, none⟩) (m + 1) cap) (m + 1) (strCells X ++ [.string (bsL Y)])) (hg : (wr.alloc y).grownBy w1 v.ownBlock) (hat : v.ownBlock = some g ∨ g = wr.heap.size + 1) :
    PX w w1 BX (.slice (some ⟨g, 0, none⟩) (m + 1) cap) (m + 1) (X ++ [Y]) gx K D := by
  have far : ∀ q, v.ownBlock = some q → w.heap.size + 1 ≤ q := fun q e => (h.pin.own.lt q e).1
  have sz := h.pin.size
  have z1 := hg.size
  simp only [World.size_alloc] at z1
  have gl := h.ext.lt
  refine ⟨⟨(h.pin.since.alloc h.pin.since.size y).grown hg (by have := h.pin.since.size; simp; omega) fun q e => by have := far q e; omega, by omega, (h.pin.box.alloc y).grown hg (fun e => by have := far _ e.symm; omega), ?_⟩, (h.ext.alloc y).grown hg (fun e => h.far gx e.symm rfl), fun q e => ?_⟩
  · rw [← strCells_app]; exact hown
  · have e2 : g = q := by simpa [Value.ownBlock] using e
    subst e2
    rcases hat with e3 | e3
    · exact h.far g e3
    · omega
/-- The parts so far, and what is to come. -/
def PartsP (C : List Ex) (p : Int) (k : Nat) (m : Nat) (X : List (List UInt8)) : Prop := m ≤ 3 * k ∧ X.length = m ∧ X.flatten ++ chainL (C.drop k) p = chainL C p
theorem parts_two {C : List Ex} {p : Int} {k m M : Nat} {X : List (List UInt8)} {D : List UInt8} (h : PartsP C p k m X) (hx : C[k]? = some ⟨44, D⟩) (hM : headK (C.drop (k + 1)) p = M) : PartsP C p (k + 1) (m + 1 + 1) (X ++ [bytesL M 1] ++ [D]) := by
  obtain ⟨h1, h2, h3⟩ := h
  refine ⟨by omega, by simp [h2], ?_⟩
  rw [drop_ex hx, chainL, extL, hM] at h3
  rw [← h3]
  simp
theorem parts_three {C : List Ex} {p : Int} {k m M U : Nat} {X : List (List UInt8)} {K : Int} {D : List UInt8} (h : PartsP C p k m X) (hx : C[k]? = some ⟨K, D⟩) (hM : headK (C.drop (k + 1)) p = M) (hK : K ≠ 44) (hU : U = D.length / 8) : PartsP C p (k + 1) (m + 1 + 1 + 1) (X ++ [bytesL M 1] ++ [bytesL U 1] ++ [D]) := by
  obtain ⟨h1, h2, h3⟩ := h
  refine ⟨by omega, by simp [h2], ?_⟩
  rw [drop_ex hx, chainL, extL, hM] at h3
  simp only [if_neg hK] at h3
  rw [← h3, hU]
  simp
set_option maxHeartbeats 6400000 in
theorem bytes_any (w : World) (x : Value) (F : Hd) (hF : HdAt w x F) (hR : RightP F) : Calls Try.prog 26 #[x] w fun e w' => e = .returned (.string (bsL (chainL F.ch F.pro))) ∧ Below w.heap.size w w' := by
  have hn : F.ch.length ≤ 8 := hR.2.2.2.2.2.2.2.1
  have HF : Hid (∀ w' : World, Keep w w' → HdAt w' x F) := fun w' k => hF.keep k
  obtain ⟨c, b, h, p, s, d, C⟩ := F
  obtain ⟨v, rfl, hv⟩ := hF
  simp only at hn hv ⊢
  obtain ⟨A, cap, g, o, rfl, h2, h4⟩ := hv.read
  clear hv
  obtain ⟨n, hC⟩ : ∃ n, C.length = n := ⟨_, rfl⟩
  rw [hC] at h2 h4 hn ⊢
  have HC : Hid (C.length = n) := hC
  have cell : Hid (∀ i, i < n → A = some ⟨g, o, none⟩ ∧ ∃ (K : Int) (D : List UInt8), C[i]? = some ⟨K, D⟩ ∧ g < w.heap.size ∧ w.cell? ⟨g, o + i * 2, none⟩ = some (.int .i64 K) ∧ w.cell? ⟨g, o + i * 2 + 1, none⟩ = some (.string (bsL D))) := h4
  clear h4 hC
  have HF2 : Hid (∀ w' : World, Keep w w' → HdAt w' (.agg #[.int .i64 c, .int .i64 b, .int .i64 h, .int .i64 p, .string (bsL s), .string (bsL d), .slice A n cap]) ⟨c, b, h, p, s, d, C⟩) := by rw [← HC.out]; exact HF.out
  clear HF
  have RL : Hid ((chainL C p).length ≤ 16384) := right_len hR
  have KM : Hid (∀ k, ∃ M : Nat, headK (C.drop k) p = M ∧ M < 256) := fun k => by
    have e : 0 ≤ headK (C.drop k) p ∧ headK (C.drop k) p ≤ 255 := headK_byte hR.2.2.2.1 (fun i x hx => by rw [List.getElem?_drop] at hx; exact (hR.2.2.2.2.2.2.2.2 _ x hx).1)
    exact ⟨(headK (C.drop k) p).toNat, by omega, by omega⟩
  have XP : Hid (∀ (i : Nat) (x : Ex), C[i]? = some x → extP i x) := hR.2.2.2.2.2.2.2.2
  clear hR
  obtain ⟨iS, hi, hz, hs, hb'⟩ := infoS
  have HI : Hid (Try.prog.info? 9 = some iS ∧ iS.zero = some (.string ⟨#[]⟩) ∧ iS.size = 1 ∧ iS.bytes = 16) := ⟨hi, hz, hs, hb'⟩
  clear hi hz hs hb'
  have START : Hid (PIn w (w.alloc (.cells #[.int .i64 c, .int .i64 b, .int .i64 h, .int .i64 p, .string (bsL s), .string (bsL d), .slice A n cap] 25)) #[.int .i64 c, .int .i64 b, .int .i64 h, .int .i64 p, .string (bsL s), .string (bsL d), .slice A n cap] (.slice none 0 0) 0 []) := ⟨bel_alloc _ _, by simp, Blk.new _ _ _, World.ownsRow_nil _ _ _ _⟩
  have START2 : Hid (PartsP C p 0 0 []) := ⟨by omega, rfl, by simp⟩
  go_enter Try.func26, Try.ntmps26
  go_wp2_with fail
  go_loopg [9, 3] n (fun g i t wr => ∃ (k m : Nat) (ao : Option Addr) (cv : Nat) (X : List (List UInt8)), (g = n - k ∧ k ≤ n ∧ PartsP C p k m X ∧ PIn w wr #[.int .i64 c, .int .i64 b, .int .i64 h, .int .i64 p, .string (bsL s), .string (bsL d), .slice A n cap] (.slice ao m cv) m X ∧ (m = 0 → ao = none ∧ cv = 0)) ∧ i = .int .i64 (k : Int) ∧ t = .slice ao m cv)
  case atStart => exact ⟨0, 0, none, 0, [], ⟨rfl, by omega, START2.out, START.out, fun _ => ⟨rfl, rfl⟩⟩, rfl, rfl⟩
  case round =>
    clear START START2
    obtain ⟨k, m, ao, cv, X, ⟨hg, hk, hP, hR, hN⟩, rfl, rfl⟩ := hrel
    have HK : Hid (gk = n - k ∧ PartsP C p k m X ∧ PIn w wr #[.int .i64 c, .int .i64 b, .int .i64 h, .int .i64 p, .string (bsL s), .string (bsL d), .slice A n cap] (.slice ao m cv) m X) := ⟨hg, hP, hR⟩
    have m24 : m ≤ 24 := by have := hP.1; omega
    have HN : Hid (m = 0 → ao = none ∧ cv = 0) := hN
    clear hg hP hN
    by_cases hz : k < n
    · obtain ⟨rfl, K, D, hx, hb, e1, e2⟩ := cell.out k hz
      have t1 := (hR.since.cell (p := ⟨g, o + k * 2, none⟩) hb).trans e1
      have t2 := (hR.since.cell (p := ⟨g, o + k * 2 + 1, none⟩) hb).trans e2
      have x0 : wr.cell? ⟨w.heap.size, 0, none⟩ = some (.int .i64 c) := hR.box.cell 0
      have x1 : wr.cell? ⟨w.heap.size, 1, none⟩ = some (.int .i64 b) := hR.box.cell 1
      have x2 : wr.cell? ⟨w.heap.size, 2, none⟩ = some (.int .i64 h) := hR.box.cell 2
      have x3 : wr.cell? ⟨w.heap.size, 3, none⟩ = some (.int .i64 p) := hR.box.cell 3
      have x4 : wr.cell? ⟨w.heap.size, 4, none⟩ = some (.string (bsL s)) := hR.box.cell 4
      have x5 : wr.cell? ⟨w.heap.size, 5, none⟩ = some (.string (bsL d)) := hR.box.cell 5
      have x6 : wr.cell? ⟨w.heap.size, 6, none⟩ = some (.slice (some ⟨g, o, none⟩) n cap) := hR.box.cell 6
      have hsz := hR.size
      have xl : w.heap.size < wr.heap.size := by omega
      have bn : (k : Int) < n := by omega
      have HX : Hid (C[k]? = some ⟨K, D⟩) := hx
      have XQ : Hid (extP k ⟨K, D⟩) := XP.out k _ hx
      obtain ⟨M, hM, M1⟩ := KM.out (k + 1)
      have HM : Hid (headK (C.drop (k + 1)) p = M) := hM
      obtain ⟨J, hJ⟩ : ∃ J, J = k + 1 := ⟨_, rfl⟩
      have zJ : (k : Int) + 1 = (J : Int) := by omega
      have HJ : Hid (J = k + 1) := hJ
      have KF : Hid (∀ w' : World, Keep w w' → Calls Try.prog 28 #[.agg #[.int .i64 c, .int .i64 b, .int .i64 h, .int .i64 p, .string (bsL s), .string (bsL d), .slice (some ⟨g, o, none⟩) n cap], .int .i64 (J : Int)] w' fun e w'' => e = .returned (.int .i64 (M : Int)) ∧ Below w'.heap.size w' w'') := fun w' kp => by
        have t := kind_any w' _ _ J (HF2.out w' kp) (by show J ≤ C.length; have := HC.out; omega) (by show C.length ≤ 9223372036854775807; have := HC.out; omega)
        have e : headK (C.drop J) p = M := by rw [hJ]; exact hM
        simp only [e] at t
        exact t
      have HX0 := hR.ext K D
      have HB0 : Hid (Keep w (wr.alloc (.cells #[.int .i64 K, .string (bsL D)] 49))) := keep_of_below HX0.pin.since
      have HE : Hid (PX w (wr.alloc (.cells #[.int .i64 K, .string (bsL D)] 49)) #[.int .i64 c, .int .i64 b, .int .i64 h, .int .i64 p, .string (bsL s), .string (bsL d), .slice (some ⟨g, o, none⟩) n cap] (.slice ao m cv) m X wr.heap.size K D) := HX0
      clear hR e1 e2 hx hM hJ HX0
      go_wp2_with fail
      refine (KF.out _ HB0.out).mono ?_
      rintro e u1 ⟨rfl, b1⟩
      have P1 : Hid (PX w u1 #[.int .i64 c, .int .i64 b, .int .i64 h, .int .i64 p, .string (bsL s), .string (bsL d), .slice (some ⟨g, o, none⟩) n cap] (.slice ao m cv) m X wr.heap.size K D) := HE.out.since b1
      clear b1
      go_wp2_with fail
      refine (numw_any M 1 _ (by omega) (by omega) (by omega)).mono ?_
      rintro e u2 ⟨rfl, b2⟩
      have P2 : Hid (PX w u2 #[.int .i64 c, .int .i64 b, .int .i64 h, .int .i64 p, .string (bsL s), .string (bsL d), .slice (some ⟨g, o, none⟩) n cap] (.slice ao m cv) m X wr.heap.size K D) := P1.out.since b2
      generalize wr.heap.size = gx at P2 ⊢
      clear b2 P1
      have zu : w.heap.size + 1 ≤ u2.heap.size := P2.out.pin.size
      obtain ⟨y1, hy1⟩ : ∃ y, y = bytesL M 1 := ⟨_, rfl⟩
      rw [← hy1]
      have HY1 : Hid (y1 = bytesL M 1) := hy1
      clear hy1
      go_upto_region 6 with (at_builtin; refine wpList_append_lies _ rfl _ _ _ rfl (w.heap.size + 1) 9 iS (.string ⟨#[]⟩) 1 16 Try.underlying69 HI.out.1 HI.out.2.1 HI.out.2.2.1 HI.out.2.2.2 rfl (by omega) (.slice ao m cv) (m) (strCells (X)) (by rfl) (P2.out.pin.own.alloc _) ⟨u2.heap.size, 0, none⟩ 1 1 [.string (bsL y1)] (by rfl) rfl (new_one u2 _ _) (str_one _) (by omega) (by unfold maxLen; omega) (by omega) (by simp; omega) (u2.heap.size + 1) (by simp) ?_; intro g1 cap1 w1 hown1 hgrow hat hlt1; have P3 : Hid (PX w w1 #[.int .i64 c, .int .i64 b, .int .i64 h, .int .i64 p, .string (bsL s), .string (bsL d), .slice (some ⟨g, o, none⟩) n cap] (.slice (some ⟨g1, 0, none⟩) (m + 1) cap1) (m + 1) (X ++ [y1]) gx K D) := P2.out.app hown1 hgrow hat; clear hown1 hgrow hat hlt1)
      have f0 : w1.cell? ⟨gx, 0, none⟩ = some (.int .i64 K) := P3.out.ext.cell 0
      have f1 : w1.cell? ⟨gx, 1, none⟩ = some (.string (bsL D)) := P3.out.ext.cell 1
      have zw : w.heap.size + 1 ≤ w1.heap.size := P3.out.pin.size
      by_cases hk4 : K = 44
      · subst hk4
        go_upto_region 8 with fail
        go_wp2_with (at_builtin; refine wpList_append_lies _ rfl _ _ _ rfl (w.heap.size + 1) 9 iS (.string ⟨#[]⟩) 1 16 Try.underlying69 HI.out.1 HI.out.2.1 HI.out.2.2.1 HI.out.2.2.2 rfl (by omega) (.slice (some ⟨g1, 0, none⟩) (m + 1) cap1) (m + 1) (strCells (X ++ [y1])) (by rfl) (P3.out.pin.own.alloc _) ⟨w1.heap.size, 0, none⟩ 1 1 [.string (bsL D)] (by rfl) rfl (new_one w1 _ _) (str_one _) (by omega) (by unfold maxLen; omega) (by omega) (by simp; omega) (w1.heap.size + 1) (by simp) ?_; intro g2 cap2 w2 hown1 hgrow hat hlt1; have P5 : Hid (PX w w2 #[.int .i64 c, .int .i64 b, .int .i64 h, .int .i64 p, .string (bsL s), .string (bsL d), .slice (some ⟨g, o, none⟩) n cap] (.slice (some ⟨g2, 0, none⟩) (m + 1 + 1) cap2) (m + 1 + 1) (X ++ [y1] ++ [D]) gx 44 D) := P3.out.app hown1 hgrow hat; clear hown1 hgrow hat hlt1)
        go_roundg (n - (k + 1))
        case measure => have := HK.out.1; omega
        case rel => exact ⟨k + 1, m + 1 + 1, _, _, _, ⟨rfl, by omega, (HY1.out ▸ parts_two HK.out.2.1 HX.out HM.out), P5.out.pin, fun e => by omega⟩, by go_num, rfl⟩
      · have q4 : (K != 44) = true := by simpa using hk4
        have H4 : Hid (K ≠ 44) := hk4
        have hD := XQ.out.2.2.2 hk4
        change 6 ≤ D.length ∧ D.length ≤ 2046 ∧ D.length % 8 = 6 at hD
        obtain ⟨U, hU⟩ : ∃ U, U = D.length / 8 := ⟨_, rfl⟩
        have HU : Hid (U = D.length / 8) := hU
        have U1 : U < 256 := by omega
        have zU : ((D.length : Int) - 6) / 8 = (U : Int) := by omega
        have d1 : (6 : Int) ≤ D.length := by omega
        have d2 : (D.length : Int) ≤ 2046 := by omega
        clear hk4 hD hU
        go_wp2_with fail
        refine (numw_any U 1 _ (by omega) (by omega) (by omega)).mono ?_
        rintro e u3 ⟨rfl, b3⟩
        have P4 : Hid (PX w u3 #[.int .i64 c, .int .i64 b, .int .i64 h, .int .i64 p, .string (bsL s), .string (bsL d), .slice (some ⟨g, o, none⟩) n cap] (.slice (some ⟨g1, 0, none⟩) (m + 1) cap1) (m + 1) (X ++ [y1]) gx K D) := P3.out.since b3
        clear b3
        have h1 : u3.cell? ⟨gx, 1, none⟩ = some (.string (bsL D)) := P4.out.ext.cell 1
        have zv : w.heap.size + 1 ≤ u3.heap.size := P4.out.pin.size
        obtain ⟨y2, hy2⟩ : ∃ y, y = bytesL U 1 := ⟨_, rfl⟩
        rw [← hy2]
        have HY2 : Hid (y2 = bytesL U 1) := hy2
        clear hy2
        go_upto_region 8 with (at_builtin; refine wpList_append_lies _ rfl _ _ _ rfl (w.heap.size + 1) 9 iS (.string ⟨#[]⟩) 1 16 Try.underlying69 HI.out.1 HI.out.2.1 HI.out.2.2.1 HI.out.2.2.2 rfl (by omega) (.slice (some ⟨g1, 0, none⟩) (m + 1) cap1) (m + 1) (strCells (X ++ [y1])) (by rfl) (P4.out.pin.own.alloc _) ⟨u3.heap.size, 0, none⟩ 1 1 [.string (bsL y2)] (by rfl) rfl (new_one u3 _ _) (str_one _) (by omega) (by unfold maxLen; omega) (by omega) (by simp; omega) (u3.heap.size + 1) (by simp) ?_; intro g3 cap3 w2 hown1 hgrow hat hlt1; have P6 : Hid (PX w w2 #[.int .i64 c, .int .i64 b, .int .i64 h, .int .i64 p, .string (bsL s), .string (bsL d), .slice (some ⟨g, o, none⟩) n cap] (.slice (some ⟨g3, 0, none⟩) (m + 1 + 1) cap3) (m + 1 + 1) (X ++ [y1] ++ [y2]) gx K D) := P4.out.app hown1 hgrow hat; clear hown1 hgrow hat hlt1)
        have j1 : w2.cell? ⟨gx, 1, none⟩ = some (.string (bsL D)) := P6.out.ext.cell 1
        have zx : w.heap.size + 1 ≤ w2.heap.size := P6.out.pin.size
        go_wp2_with (at_builtin; refine wpList_append_lies _ rfl _ _ _ rfl (w.heap.size + 1) 9 iS (.string ⟨#[]⟩) 1 16 Try.underlying69 HI.out.1 HI.out.2.1 HI.out.2.2.1 HI.out.2.2.2 rfl (by omega) (.slice (some ⟨g3, 0, none⟩) (m + 1 + 1) cap3) (m + 1 + 1) (strCells (X ++ [y1] ++ [y2])) (by rfl) (P6.out.pin.own.alloc _) ⟨w2.heap.size, 0, none⟩ 1 1 [.string (bsL D)] (by rfl) rfl (new_one w2 _ _) (str_one _) (by omega) (by unfold maxLen; omega) (by omega) (by simp; omega) (w2.heap.size + 1) (by simp) ?_; intro g2 cap2 w3 hown1 hgrow hat hlt1; have P5 : Hid (PX w w3 #[.int .i64 c, .int .i64 b, .int .i64 h, .int .i64 p, .string (bsL s), .string (bsL d), .slice (some ⟨g, o, none⟩) n cap] (.slice (some ⟨g2, 0, none⟩) (m + 1 + 1 + 1) cap2) (m + 1 + 1 + 1) (X ++ [y1] ++ [y2] ++ [D]) gx K D) := P6.out.app hown1 hgrow hat; clear hown1 hgrow hat hlt1)
        go_roundg (n - (k + 1))
        case measure => have := HK.out.1; omega
        case rel =>
          have pp := parts_three HK.out.2.1 HX.out HM.out H4.out HU.out
          rw [← HY1.out, ← HY2.out] at pp
          exact ⟨k + 1, m + 1 + 1 + 1, _, _, _, ⟨rfl, by omega, pp, P5.out.pin, fun e => by omega⟩, by go_num, rfl⟩
    · have e : k = n := by omega
      have HFL : Hid (X.flatten = chainL C p) := by
        have q := HK.out.2.1.2.2
        rw [List.drop_eq_nil_of_le (by have := HC.out; omega), chainL, List.append_nil] at q
        exact q
      clear hR
      by_cases hm : m = 0
      · subst hm
        have HZ1 : Hid (chainL C p = []) := by
          show chainL C p = []
          rw [← HFL.out, List.length_eq_zero_iff.1 HK.out.2.1.2.1]; rfl
        obtain ⟨rfl, rfl⟩ := HN.out rfl
        go_wp2_with fail
        refine (join_none _).mono ?_
        rintro e u1 ⟨rfl, rfl⟩
        go_wp2_with fail
        go_ret
        exact ⟨by rw [HZ1.out]; rfl, HK.out.2.2.since⟩
      · go_wp2_with fail
        refine (join_any _ _ (w.heap.size + 1) m X HK.out.2.2.own (by omega) (by omega) (by rw [HFL.out]; have := RL.out; omega)).mono ?_
        rintro e u1 ⟨rfl, b1⟩
        rw [HFL.out]
        go_wp2_with fail
        go_ret
        exact ⟨rfl, bel_trans HK.out.2.2.since b1⟩
end Go.Proofs.Ytjbpbahaekbmlaa
