
/-
  Right of layer 15 (elastic): what the code answers.
  Get of layer 15 (elastic): what the code answers.
-/
import Derived.Test.YtihealembikkiaaElM1
import Derived.Test.YtihealembikkiaaElM2
namespace Go.Proofs.Ytihealembikkiaa
open Go.RowKit Fm Bl Lt El L2 L14 Go.Deep Go.Shelf
set_option linter.unusedVariables false
set_option maxRecDepth 20000
set_option linter.unusedSimpArgs false

/-- Is all of a bucket right but the number of its entries? -/
def RightBu (b : Bkt) : Prop := 0 ≤ b.ag ∧ b.ag ≤ 1099511627776 ∧ ∀ (i : Nat) (e : Ent), b.es[i]? = some e → 1 ≤ e.v ∧ e.v ≤ 1099511627776 ∧ atE b.es e.k = some i
/-- Is Light right? -/
def RightLi (F : Elk) : Prop := RightP F.LM F.R F.L F.Z ∧ F.LS = rowF F.S 1 ∧ F.LM = 255
theorem atI_eq {l : List Ent} {s : ByteArray} {k : Nat} (h : atI l s = (k : Int)) : atE l s = some k := by
  cases g : atE l s with
  | none => rw [atI_none g] at h; omega
  | some j => rw [atI_some g] at h; rw [show j = k by omega]
set_option maxHeartbeats 3200000 in
theorem erightB_any (w : World) (ev : Value) (l : List Ent) (ag : Int) (h : EntsE w ev l) (hl : l.length ≤ 1000) : Calls Try.prog 41 #[.agg #[ev, .int .i64 ag]] w (TellsB w (RightBu ⟨l, ag⟩)) := by
  have FA := hidE fun u (z : Below w.heap.size w u) (s : ByteArray) => efind_any u ev l s (h.keep (keep_of_below z)) (by omega)
  obtain ⟨A, cap, b, o, rfl, hc, h3, h4⟩ := h
  have H3 := hidE h3
  have H4 := hidE h4
  obtain ⟨n, hn⟩ : ∃ n, n = l.length := ⟨_, rfl⟩
  have HN := hidE hn
  rw [← hn] at hc hl FA ⊢
  have BX : Hid (Below w.heap.size w (w.alloc (.cells #[.slice A n cap, .int .i64 ag] 56))) := bel_alloc _ _
  have KX : Hid (Blk (w.alloc (.cells #[.slice A n cap, .int .i64 ag] 56)) w.heap.size 56 #[.slice A n cap, .int .i64 ag]) := Blk.new _ _ _
  clear h3 h4 hn
  go_enter Try.func41, Try.ntmps41
  by_cases c0 : ag < 0
  · have NS : Hid (¬ RightBu ⟨l, ag⟩) := fun h => by have := h.1; simp only at this; omega
    go_wp2_with fail
    go_ret
    exact ⟨false, rfl, ⟨fun h => (by cases h), fun h => absurd h NS.out⟩, BX.out⟩
  by_cases c1 : ag > 1099511627776
  · have NS : Hid (¬ RightBu ⟨l, ag⟩) := fun h => by have := h.2.1; simp only at this; omega
    go_wp2_with fail
    go_ret
    exact ⟨false, rfl, ⟨fun h => (by cases h), fun h => absurd h NS.out⟩, BX.out⟩
  have AGR : Hid (0 ≤ ag ∧ ag ≤ 1099511627776) := ⟨by omega, by omega⟩
  go_wp2_with fail
  generalize w.alloc (.cells #[.slice A n cap, .int .i64 ag] 56) = X at BX KX ⊢
  go_loopg [3, 4, 16] n (fun gk s3 s4 i wr => ∃ k : Nat, (gk = n - k ∧ k ≤ n ∧ Below X.heap.size X wr ∧ ∀ (i : Nat) (e : Ent), i < k → l[i]? = some e → 1 ≤ e.v ∧ e.v ≤ 1099511627776 ∧ atE l e.k = some i) ∧ i = .int .i64 (k : Int))
  case atStart => exact ⟨0, ⟨rfl, by omega, Below.refl _ _, fun i e hi => by omega⟩, rfl⟩
  case round =>
    obtain ⟨k, ⟨hgk, hk, hB, hS⟩, rfl⟩ := hrel
    have HB := hidE hB
    have HK := hidE hgk
    have HS := hidE hS
    clear hB hgk hS c0 c1
    by_cases hz : k < n
    · obtain rfl := H3.out (by rw [← HN.out]; omega)
      obtain ⟨y, hy⟩ : ∃ y, l[k]? = some y := ⟨_, List.getElem?_eq_getElem (by rw [← HN.out]; exact hz)⟩
      have HY := hidE hy
      obtain ⟨c1, c2, c3⟩ := H4.out k y hy
      have c1 := keep_of_below (bel_trans BX.out HB.out) _ _ c1
      have c2 := keep_of_below (bel_trans BX.out HB.out) _ _ c2
      have c3 := keep_of_below (bel_trans BX.out HB.out) _ _ c3
      obtain ⟨t, d, f⟩ := y
      simp only at c1 c2 c3
      have bk : (k : Int) < (n : Int) := by omega
      have bk0 : (0 : Int) ≤ (k : Int) := by omega
      have BA : Hid (Below wr.heap.size wr (wr.alloc (.cells #[.string t, .int .i64 d, .bool f] 76))) := bel_alloc _ _
      have KA : Hid (Blk (wr.alloc (.cells #[.string t, .int .i64 d, .bool f] 76)) wr.heap.size 76 #[.string t, .int .i64 d, .bool f]) := Blk.new _ _ _
      clear hy
      go_upto_region 6 with fail
      have B2 := hidE (bel_trans HB.out BA.out)
      have K2 := hidE (KX.out.since B2.out)
      clear BA c1 c2 c3
      generalize wr.alloc (.cells #[.string t, .int .i64 d, .bool f] 76) = Y at B2 K2 KA ⊢
      generalize wr.heap.size = g at KA ⊢
      have x0 : Y.cell? ⟨w.heap.size, 0, none⟩ = some (.slice (some ⟨b, o, none⟩) n cap) := K2.out.cell 0
      have y0 : Y.cell? ⟨g, 0, none⟩ = some (.string t) := KA.out.cell 0
      have y1 : Y.cell? ⟨g, 1, none⟩ = some (.int .i64 d) := KA.out.cell 1
      by_cases d1 : d < 1
      · have NS : Hid (¬ RightBu ⟨l, ag⟩) := fun h => by have := (h.2.2 k _ HY.out).1; simp only at this; omega
        go_wp2_with fail
        go_ret
        exact ⟨false, rfl, ⟨fun h => (by cases h), fun h => absurd h NS.out⟩, bel_trans BX.out B2.out⟩
      by_cases d2 : d > 1099511627776
      · have NS : Hid (¬ RightBu ⟨l, ag⟩) := fun h => by have := (h.2.2 k _ HY.out).2.1; simp only at this; omega
        go_wp2_with fail
        go_ret
        exact ⟨false, rfl, ⟨fun h => (by cases h), fun h => absurd h NS.out⟩, bel_trans BX.out B2.out⟩
      have DR : Hid (1 ≤ d ∧ d ≤ 1099511627776) := ⟨by omega, by omega⟩
      go_wp2_with fail
      refine (FA.out _ (bel_trans BX.out B2.out) t).mono ?_
      rintro e u1 ⟨rfl, b1⟩
      have B3 := hidE (bel_trans B2.out b1)
      clear b1 B2 K2 KA x0 y0 y1
      by_cases e : atI l t = (k : Int)
      · have q : (atI l t == (k : Int)) = true := by rw [e]; simp
        have E := hidE e
        clear e
        go_wp2_with fail
        go_roundg (n - (k + 1))
        case measure => have := HK.out; omega
        case rel =>
          refine ⟨k + 1, ⟨rfl, by omega, B3.out, fun i x hi hx => ?_⟩, by go_num⟩
          by_cases ek : i = k
          · subst ek
            have := HY.out.symm.trans hx
            cases this
            exact ⟨DR.out.1, DR.out.2, atI_eq E.out⟩
          · exact HS.out i x (by omega) hx
      · have q : (atI l t == (k : Int)) = false := by simpa using e
        have NS : Hid (¬ RightBu ⟨l, ag⟩) := fun h => e (atI_some (h.2.2 k _ HY.out).2.2)
        clear e
        go_wp2_with fail
        go_ret
        exact ⟨false, rfl, ⟨fun h => (by cases h), fun h => absurd h NS.out⟩, bel_trans BX.out B3.out⟩
    · have bk : ¬ (k : Int) < (n : Int) := by omega
      go_wp2_with fail
      go_ret
      exact ⟨true, rfl, ⟨fun _ => ⟨AGR.out.1, AGR.out.2, fun i e he => HS.out i e (by have := HN.out; have : i < l.length := (List.getElem?_eq_some_iff.1 he).1; omega) he⟩, fun _ => rfl⟩, bel_trans BX.out HB.out⟩
set_option maxHeartbeats 3200000 in
theorem erightL_any (w : World) (x : Value) (F : Elk) (h : ElAt w x F) (uS : U F.S) (hR : F.R ≤ 1000) (hL : ∀ i, i < F.R → F.L i ≤ 1000) : Calls Try.prog 40 #[x] w (TellsB w (RightLi F)) := by
  obtain ⟨bv, rv, rfl, hB, hr⟩ := h
  obtain ⟨A, cap, b, o, rfl, hc, _, _⟩ := hB
  obtain ⟨n, hn⟩ : ∃ n, n = F.bs.length := ⟨_, rfl⟩
  unfold elv
  rw [← hn]
  have BX : Hid (Below w.heap.size w (w.alloc (.cells #[.int .u64 F.S, .int .i64 F.room, .int .i64 F.votes, .slice A n cap, .int .u64 F.LS, .int .i64 F.LM, rv] 28))) := bel_alloc _ _
  have KX : Hid (Blk (w.alloc (.cells #[.int .u64 F.S, .int .i64 F.room, .int .i64 F.votes, .slice A n cap, .int .u64 F.LS, .int .i64 F.LM, rv] 28)) w.heap.size 28 #[.int .u64 F.S, .int .i64 F.room, .int .i64 F.votes, .slice A n cap, .int .u64 F.LS, .int .i64 F.LM, rv]) := Blk.new _ _ _
  have SK := hidE fun u (b : Below w.heap.size w u) => rowsI_sk (F := F) (hr.keep (keep_of_below b))
  have UR := rowF_U F.S 1
  clear hr hn hc
  go_enter Try.func40, Try.ntmps40
  go_wp2_with fail
  generalize w.alloc (.cells #[.int .u64 F.S, .int .i64 F.room, .int .i64 F.votes, .slice A n cap, .int .u64 F.LS, .int .i64 F.LM, rv] 28) = X at BX KX ⊢
  by_cases rp : RightP F.LM F.R F.L F.Z
  rotate_left
  · have RC := hidE fun u (b : Below w.heap.size w u) => right_no (SK.out u b) hR hL rp
    have NS : Hid (¬ RightLi F) := fun h => rp h.1
    clear rp hL
    refine letterQ ?_
    intro QQ hQQ
    have Z0 : Hid (Below X.heap.size X X.drew) := (Below.refl _ _).drew
    refine wp_region_held_drew (S := fun w2 => Below X.heap.size X w2) (by kernel_rfl) Z0.out (fun hHeld => ?_)
    clear hHeld
    generalize X.drew = q0 at Z0 ⊢
    refine wpAnyH_take (i := 0) (v := ?_) rfl (by kernel_rfl) (by kernel_rfl) (by kernel_rfl) (fun _ _ _ h => h) (Or.inl ⟨by rfl, ?_⟩) Z0.out ?_
    rotate_left
    · intro wq hSw; go_simp; first | done | with_reducible rfl
    simp only [List.getElem_toArray, List.getElem_cons_zero, Act.put, List.setIfInBounds_toArray, List.set_cons_zero, List.set_cons_succ]
    refine wpAnyH_take (i := 1) (v := ?_) rfl (by kernel_rfl) (by kernel_rfl) (by kernel_rfl) (fun _ _ _ h => h) (Or.inl ⟨by rfl, ?_⟩) Z0.out ?_
    rotate_left
    · intro wq hSw; have cl0 := (KX.out.since hSw).cell 4; have cl1 := (KX.out.since hSw).cell 5; have cl2 := (KX.out.since hSw).cell 6; go_simp; first | done | with_reducible rfl
    simp only [List.getElem_toArray, List.getElem_cons_zero, List.getElem_cons_succ, Act.put, List.setIfInBounds_toArray, List.set_cons_zero, List.set_cons_succ]
    refine wpAnyH_ready (rs := [2]) (by kernel_rfl) (by simp) ?_
    refine AllReadyH.cons rfl (fun K0 hK0 => ?_) ?_
    rotate_left
    · exact AllReadyH.nil
    refine step_func 57 #[.agg #[.int .u64 F.LS, .int .i64 F.LM, rv]] (by rfl) rfl (by simp [Act.eval]) (fun _ _ => by kernel_rfl) ?_
    refine (RC.out _ (bel_trans BX.out Z0.out)).mono ?_
    rintro e v1 ⟨rfl, b1⟩
    have Z1 := hidE (bel_trans Z0.out b1)
    clear b1
    refine ⟨_, rfl, ?_⟩
    refine hK0.out _ _ (by exact Z1.out) (fun hHeld => ?_)
    clear hK0 K0 hHeld
    simp only [Act.put, List.setIfInBounds_toArray]
    refine wpAnyH_take (i := 3) (v := ?_) rfl (by kernel_rfl) (by kernel_rfl) (by kernel_rfl) (fun _ _ _ h => h) (Or.inl ⟨by rfl, ?_⟩) Z1.out ?_
    rotate_left
    · intro wq hSw; go_simp; first | done | with_reducible rfl
    simp only [List.getElem_toArray, List.getElem_cons_zero, List.getElem_cons_succ, Act.put, List.setIfInBounds_toArray, List.set_cons_zero, List.set_cons_succ]
    refine wpAnyH_take (i := 4) (v := undef) rfl (by kernel_rfl) (by kernel_rfl) (by kernel_rfl) (fun _ _ _ h => h) (Or.inr ⟨by rfl, rfl⟩) Z1.out ?_
    simp only [List.getElem_toArray, List.getElem_cons_zero, List.getElem_cons_succ, Act.put, List.setIfInBounds_toArray, List.set_cons_zero, List.set_cons_succ]
    refine wpAnyH_take (i := 5) (v := undef) rfl (by kernel_rfl) (by kernel_rfl) (by kernel_rfl) (fun _ _ _ h => h) (Or.inr ⟨by rfl, rfl⟩) Z1.out ?_
    simp only [List.getElem_toArray, List.getElem_cons_zero, List.getElem_cons_succ, Act.put, List.setIfInBounds_toArray, List.set_cons_zero, List.set_cons_succ]
    refine wpAnyH_take (i := 6) (v := undef) rfl (by kernel_rfl) (by kernel_rfl) (by kernel_rfl) (fun _ _ _ h => h) (Or.inr ⟨by rfl, rfl⟩) Z1.out ?_
    simp only [List.getElem_toArray, List.getElem_cons_zero, List.getElem_cons_succ, Act.put, List.setIfInBounds_toArray, List.set_cons_zero, List.set_cons_succ]
    refine wpAnyH_take (i := 7) (v := undef) rfl (by kernel_rfl) (by kernel_rfl) (by kernel_rfl) (fun _ _ _ h => h) (Or.inr ⟨by rfl, rfl⟩) Z1.out ?_
    simp only [List.getElem_toArray, List.getElem_cons_zero, List.getElem_cons_succ, Act.put, List.setIfInBounds_toArray, List.set_cons_zero, List.set_cons_succ]
    refine wpAnyH_take (i := 8) (v := undef) rfl (by kernel_rfl) (by kernel_rfl) (by kernel_rfl) (fun _ _ _ h => h) (Or.inr ⟨by rfl, rfl⟩) Z1.out ?_
    simp only [List.getElem_toArray, List.getElem_cons_zero, List.getElem_cons_succ, Act.put, List.setIfInBounds_toArray, List.set_cons_zero, List.set_cons_succ]
    refine wpAnyH_take (i := 9) (v := undef) rfl (by kernel_rfl) (by kernel_rfl) (by kernel_rfl) (fun _ _ _ h => h) (Or.inr ⟨by rfl, rfl⟩) Z1.out ?_
    simp only [List.getElem_toArray, List.getElem_cons_zero, List.getElem_cons_succ, Act.put, List.setIfInBounds_toArray, List.set_cons_zero, List.set_cons_succ]
    refine wpAnyH_take (i := 10) (v := undef) rfl (by kernel_rfl) (by kernel_rfl) (by kernel_rfl) (fun _ _ _ h => h) (Or.inr ⟨by rfl, rfl⟩) Z1.out ?_
    simp only [List.getElem_toArray, List.getElem_cons_zero, List.getElem_cons_succ, Act.put, List.setIfInBounds_toArray, List.set_cons_zero, List.set_cons_succ]
    refine wpAnyH_take (i := 11) (v := ?_) rfl (by kernel_rfl) (by kernel_rfl) (by kernel_rfl) (fun _ _ _ h => h) (Or.inl ⟨by rfl, ?_⟩) Z1.out ?_
    rotate_left
    · intro wq hSw; go_simp; first | done | with_reducible rfl
    simp only [List.getElem_toArray, List.getElem_cons_zero, List.getElem_cons_succ, Act.put, List.setIfInBounds_toArray, List.set_cons_zero, List.set_cons_succ]
    refine wpAnyH_take (i := 12) (v := ?_) rfl (by kernel_rfl) (by kernel_rfl) (by kernel_rfl) (fun _ _ _ h => h) (Or.inl ⟨by rfl, ?_⟩) Z1.out ?_
    rotate_left
    · intro wq hSw; go_simp; first | done | with_reducible rfl
    simp only [List.getElem_toArray, List.getElem_cons_zero, List.getElem_cons_succ, Act.put, List.setIfInBounds_toArray, List.set_cons_zero, List.set_cons_succ]
    refine wpAnyH_take (i := 13) (v := undef) rfl (by kernel_rfl) (by kernel_rfl) (by kernel_rfl) (fun _ _ _ h => h) (Or.inr ⟨by rfl, rfl⟩) Z1.out ?_
    simp only [List.getElem_toArray, List.getElem_cons_zero, List.getElem_cons_succ, Act.put, List.setIfInBounds_toArray, List.set_cons_zero, List.set_cons_succ]
    refine wpAnyH_take (i := 14) (v := undef) rfl (by kernel_rfl) (by kernel_rfl) (by kernel_rfl) (fun _ _ _ h => h) (Or.inr ⟨by rfl, rfl⟩) Z1.out ?_
    simp only [List.getElem_toArray, List.getElem_cons_zero, List.getElem_cons_succ, Act.put, List.setIfInBounds_toArray, List.set_cons_zero, List.set_cons_succ]
    refine wpAnyH_take (i := 15) (v := undef) rfl (by kernel_rfl) (by kernel_rfl) (by kernel_rfl) (fun _ _ _ h => h) (Or.inr ⟨by rfl, rfl⟩) Z1.out ?_
    simp only [List.getElem_toArray, List.getElem_cons_zero, List.getElem_cons_succ, Act.put, List.setIfInBounds_toArray, List.set_cons_zero, List.set_cons_succ]
    refine wpAnyH_take (i := 16) (v := undef) rfl (by kernel_rfl) (by kernel_rfl) (by kernel_rfl) (fun _ _ _ h => h) (Or.inr ⟨by rfl, rfl⟩) Z1.out ?_
    simp only [List.getElem_toArray, List.getElem_cons_zero, List.getElem_cons_succ, Act.put, List.setIfInBounds_toArray, List.set_cons_zero, List.set_cons_succ]
    refine wpAnyH_take (i := 17) (v := ?_) rfl (by kernel_rfl) (by kernel_rfl) (by kernel_rfl) (fun _ _ _ h => h) (Or.inl ⟨by rfl, ?_⟩) Z1.out ?_
    rotate_left
    · intro wq hSw; go_simp; first | done | with_reducible rfl
    simp only [List.getElem_toArray, List.getElem_cons_zero, List.getElem_cons_succ, Act.put, List.setIfInBounds_toArray, List.set_cons_zero, List.set_cons_succ]
    refine wpAnyH_take (i := 18) (v := ?_) rfl (by kernel_rfl) (by kernel_rfl) (by kernel_rfl) (fun _ _ _ h => h) (Or.inl ⟨by rfl, ?_⟩) Z1.out ?_
    rotate_left
    · intro wq hSw; go_simp; first | done | with_reducible rfl
    simp only [List.getElem_toArray, List.getElem_cons_zero, List.getElem_cons_succ, Act.put, List.setIfInBounds_toArray, List.set_cons_zero, List.set_cons_succ]
    refine wpAnyH_done (by kernel_rfl) ?_ _
    refine NoPanic.normal ?_
    refine hQQ.out _ _ ?_
    clear hQQ
    go_wp2_with fail
    go_ret
    exact ⟨false, rfl, ⟨fun h => (by cases h), fun h => absurd h NS.out⟩, bel_trans BX.out Z1.out⟩
  have RC := hidE fun u (b : Below w.heap.size w u) => right_yes (SK.out u b) rp
  have RP := hidE rp
  clear rp hL
  by_cases e : F.LS = rowF F.S 1
  rotate_left
  · have q : (F.LS == rowF F.S 1) = false := by simpa using e
    have NS : Hid (¬ RightLi F) := fun h => e h.2.1
    clear e
    refine letterQ ?_
    intro QQ hQQ
    have Z0 : Hid (Below X.heap.size X X.drew) := (Below.refl _ _).drew
    refine wp_region_held_drew (S := fun w2 => Below X.heap.size X w2) (by kernel_rfl) Z0.out (fun hHeld => ?_)
    clear hHeld
    generalize X.drew = q0 at Z0 ⊢
    refine wpAnyH_take (i := 0) (v := ?_) rfl (by kernel_rfl) (by kernel_rfl) (by kernel_rfl) (fun _ _ _ h => h) (Or.inl ⟨by rfl, ?_⟩) Z0.out ?_
    rotate_left
    · intro wq hSw; go_simp; first | done | with_reducible rfl
    simp only [List.getElem_toArray, List.getElem_cons_zero, Act.put, List.setIfInBounds_toArray, List.set_cons_zero, List.set_cons_succ]
    refine wpAnyH_take (i := 1) (v := ?_) rfl (by kernel_rfl) (by kernel_rfl) (by kernel_rfl) (fun _ _ _ h => h) (Or.inl ⟨by rfl, ?_⟩) Z0.out ?_
    rotate_left
    · intro wq hSw; have cl0 := (KX.out.since hSw).cell 4; have cl1 := (KX.out.since hSw).cell 5; have cl2 := (KX.out.since hSw).cell 6; go_simp; first | done | with_reducible rfl
    simp only [List.getElem_toArray, List.getElem_cons_zero, List.getElem_cons_succ, Act.put, List.setIfInBounds_toArray, List.set_cons_zero, List.set_cons_succ]
    refine wpAnyH_ready (rs := [2]) (by kernel_rfl) (by simp) ?_
    refine AllReadyH.cons rfl (fun K0 hK0 => ?_) ?_
    rotate_left
    · exact AllReadyH.nil
    refine step_func 57 #[.agg #[.int .u64 F.LS, .int .i64 F.LM, rv]] (by rfl) rfl (by simp [Act.eval]) (fun _ _ => by kernel_rfl) ?_
    refine (RC.out _ (bel_trans BX.out Z0.out)).mono ?_
    rintro e v1 ⟨rfl, b1⟩
    have Z1 := hidE (bel_trans Z0.out b1)
    clear b1
    refine ⟨_, rfl, ?_⟩
    refine hK0.out _ _ (by exact Z1.out) (fun hHeld => ?_)
    clear hK0 K0 hHeld
    simp only [Act.put, List.setIfInBounds_toArray]
    refine wpAnyH_take (i := 3) (v := ?_) rfl (by kernel_rfl) (by kernel_rfl) (by kernel_rfl) (fun _ _ _ h => h) (Or.inl ⟨by rfl, ?_⟩) Z1.out ?_
    rotate_left
    · intro wq hSw; go_simp; first | done | with_reducible rfl
    simp only [List.getElem_toArray, List.getElem_cons_zero, List.getElem_cons_succ, Act.put, List.setIfInBounds_toArray, List.set_cons_zero, List.set_cons_succ]
    refine wpAnyH_take (i := 4) (v := ?_) rfl (by kernel_rfl) (by kernel_rfl) (by kernel_rfl) (fun _ _ _ h => h) (Or.inl ⟨by rfl, ?_⟩) Z1.out ?_
    rotate_left
    · intro wq hSw; go_simp; first | done | with_reducible rfl
    simp only [List.getElem_toArray, List.getElem_cons_zero, List.getElem_cons_succ, Act.put, List.setIfInBounds_toArray, List.set_cons_zero, List.set_cons_succ]
    refine wpAnyH_take (i := 5) (v := ?_) rfl (by kernel_rfl) (by kernel_rfl) (by kernel_rfl) (fun _ _ _ h => h) (Or.inl ⟨by rfl, ?_⟩) Z1.out ?_
    rotate_left
    · intro wq hSw; go_simp; first | done | with_reducible rfl
    simp only [List.getElem_toArray, List.getElem_cons_zero, List.getElem_cons_succ, Act.put, List.setIfInBounds_toArray, List.set_cons_zero, List.set_cons_succ]
    refine wpAnyH_take (i := 6) (v := ?_) rfl (by kernel_rfl) (by kernel_rfl) (by kernel_rfl) (fun _ _ _ h => h) (Or.inl ⟨by rfl, ?_⟩) Z1.out ?_
    rotate_left
    · intro wq hSw; have cl0 := (KX.out.since hSw).cell 4; go_simp; first | done | with_reducible rfl
    simp only [List.getElem_toArray, List.getElem_cons_zero, List.getElem_cons_succ, Act.put, List.setIfInBounds_toArray, List.set_cons_zero, List.set_cons_succ]
    refine wpAnyH_take (i := 7) (v := ?_) rfl (by kernel_rfl) (by kernel_rfl) (by kernel_rfl) (fun _ _ _ h => h) (Or.inl ⟨by rfl, ?_⟩) Z1.out ?_
    rotate_left
    · intro wq hSw; go_simp; first | done | with_reducible rfl
    simp only [List.getElem_toArray, List.getElem_cons_zero, List.getElem_cons_succ, Act.put, List.setIfInBounds_toArray, List.set_cons_zero, List.set_cons_succ]
    refine wpAnyH_take (i := 8) (v := ?_) rfl (by kernel_rfl) (by kernel_rfl) (by kernel_rfl) (fun _ _ _ h => h) (Or.inl ⟨by rfl, ?_⟩) Z1.out ?_
    rotate_left
    · intro wq hSw; have cl0 := (KX.out.since hSw).cell 0; go_simp; first | done | with_reducible rfl
    simp only [List.getElem_toArray, List.getElem_cons_zero, List.getElem_cons_succ, Act.put, List.setIfInBounds_toArray, List.set_cons_zero, List.set_cons_succ]
    refine wpAnyH_ready (rs := [9]) (by kernel_rfl) (by simp) ?_
    refine AllReadyH.cons rfl (fun K0 hK0 => ?_) ?_
    rotate_left
    · exact AllReadyH.nil
    refine step_func 48 #[.int .u64 F.S, .int .i64 1] (by rfl) rfl (by simp [Act.eval]) (fun _ _ => by kernel_rfl) ?_
    refine (row_any F.S 1 _ uS (by omega)).mono ?_
    rintro e v2 ⟨rfl, rfl⟩
    refine ⟨_, rfl, ?_⟩
    refine hK0.out _ _ (by exact Z1.out) (fun hHeld => ?_)
    clear hK0 K0 hHeld
    simp only [Act.put, List.setIfInBounds_toArray]
    refine wpAnyH_take (i := 10) (v := ?_) rfl (by kernel_rfl) (by kernel_rfl) (by kernel_rfl) (fun _ _ _ h => h) (Or.inl ⟨by rfl, ?_⟩) Z1.out ?_
    rotate_left
    · intro wq hSw; go_simp; first | done | with_reducible rfl
    simp only [List.getElem_toArray, List.getElem_cons_zero, List.getElem_cons_succ, Act.put, List.setIfInBounds_toArray, List.set_cons_zero, List.set_cons_succ]
    refine wpAnyH_take (i := 11) (v := ?_) rfl (by kernel_rfl) (by kernel_rfl) (by kernel_rfl) (fun _ _ _ h => h) (Or.inl ⟨by rfl, ?_⟩) Z1.out ?_
    rotate_left
    · intro wq hSw; go_simp; first | done | with_reducible rfl
    simp only [List.getElem_toArray, List.getElem_cons_zero, List.getElem_cons_succ, Act.put, List.setIfInBounds_toArray, List.set_cons_zero, List.set_cons_succ]
    refine wpAnyH_take (i := 12) (v := ?_) rfl (by kernel_rfl) (by kernel_rfl) (by kernel_rfl) (fun _ _ _ h => h) (Or.inl ⟨by rfl, ?_⟩) Z1.out ?_
    rotate_left
    · intro wq hSw; go_simp; first | done | with_reducible rfl
    simp only [List.getElem_toArray, List.getElem_cons_zero, List.getElem_cons_succ, Act.put, List.setIfInBounds_toArray, List.set_cons_zero, List.set_cons_succ]
    refine wpAnyH_take (i := 13) (v := undef) rfl (by kernel_rfl) (by kernel_rfl) (by kernel_rfl) (fun _ _ _ h => h) (Or.inr ⟨by rfl, rfl⟩) Z1.out ?_
    simp only [List.getElem_toArray, List.getElem_cons_zero, List.getElem_cons_succ, Act.put, List.setIfInBounds_toArray, List.set_cons_zero, List.set_cons_succ]
    refine wpAnyH_take (i := 14) (v := undef) rfl (by kernel_rfl) (by kernel_rfl) (by kernel_rfl) (fun _ _ _ h => h) (Or.inr ⟨by rfl, rfl⟩) Z1.out ?_
    simp only [List.getElem_toArray, List.getElem_cons_zero, List.getElem_cons_succ, Act.put, List.setIfInBounds_toArray, List.set_cons_zero, List.set_cons_succ]
    refine wpAnyH_take (i := 15) (v := undef) rfl (by kernel_rfl) (by kernel_rfl) (by kernel_rfl) (fun _ _ _ h => h) (Or.inr ⟨by rfl, rfl⟩) Z1.out ?_
    simp only [List.getElem_toArray, List.getElem_cons_zero, List.getElem_cons_succ, Act.put, List.setIfInBounds_toArray, List.set_cons_zero, List.set_cons_succ]
    refine wpAnyH_take (i := 16) (v := undef) rfl (by kernel_rfl) (by kernel_rfl) (by kernel_rfl) (fun _ _ _ h => h) (Or.inr ⟨by rfl, rfl⟩) Z1.out ?_
    simp only [List.getElem_toArray, List.getElem_cons_zero, List.getElem_cons_succ, Act.put, List.setIfInBounds_toArray, List.set_cons_zero, List.set_cons_succ]
    refine wpAnyH_take (i := 17) (v := ?_) rfl (by kernel_rfl) (by kernel_rfl) (by kernel_rfl) (fun _ _ _ h => h) (Or.inl ⟨by rfl, ?_⟩) Z1.out ?_
    rotate_left
    · intro wq hSw; go_simp; first | done | with_reducible rfl
    simp only [List.getElem_toArray, List.getElem_cons_zero, List.getElem_cons_succ, Act.put, List.setIfInBounds_toArray, List.set_cons_zero, List.set_cons_succ]
    refine wpAnyH_take (i := 18) (v := ?_) rfl (by kernel_rfl) (by kernel_rfl) (by kernel_rfl) (fun _ _ _ h => h) (Or.inl ⟨by rfl, ?_⟩) Z1.out ?_
    rotate_left
    · intro wq hSw; go_simp; first | done | with_reducible rfl
    simp only [List.getElem_toArray, List.getElem_cons_zero, List.getElem_cons_succ, Act.put, List.setIfInBounds_toArray, List.set_cons_zero, List.set_cons_succ]
    refine wpAnyH_done (by kernel_rfl) ?_ _
    refine NoPanic.normal ?_
    refine hQQ.out _ _ ?_
    clear hQQ
    go_wp2_with fail
    go_ret
    exact ⟨false, rfl, ⟨fun h => (by cases h), fun h => absurd h NS.out⟩, bel_trans BX.out Z1.out⟩
  have q : (F.LS == rowF F.S 1) = true := by simpa using e
  have E := hidE e
  clear e
  by_cases e : F.LM = 255
  rotate_left
  · have q2 : (F.LM == 255) = false := by simpa using e
    have NS : Hid (¬ RightLi F) := fun h => e h.2.2
    clear e
    refine letterQ ?_
    intro QQ hQQ
    have Z0 : Hid (Below X.heap.size X X.drew) := (Below.refl _ _).drew
    refine wp_region_held_drew (S := fun w2 => Below X.heap.size X w2) (by kernel_rfl) Z0.out (fun hHeld => ?_)
    clear hHeld
    generalize X.drew = q0 at Z0 ⊢
    refine wpAnyH_take (i := 0) (v := ?_) rfl (by kernel_rfl) (by kernel_rfl) (by kernel_rfl) (fun _ _ _ h => h) (Or.inl ⟨by rfl, ?_⟩) Z0.out ?_
    rotate_left
    · intro wq hSw; go_simp; first | done | with_reducible rfl
    simp only [List.getElem_toArray, List.getElem_cons_zero, Act.put, List.setIfInBounds_toArray, List.set_cons_zero, List.set_cons_succ]
    refine wpAnyH_take (i := 1) (v := ?_) rfl (by kernel_rfl) (by kernel_rfl) (by kernel_rfl) (fun _ _ _ h => h) (Or.inl ⟨by rfl, ?_⟩) Z0.out ?_
    rotate_left
    · intro wq hSw; have cl0 := (KX.out.since hSw).cell 4; have cl1 := (KX.out.since hSw).cell 5; have cl2 := (KX.out.since hSw).cell 6; go_simp; first | done | with_reducible rfl
    simp only [List.getElem_toArray, List.getElem_cons_zero, List.getElem_cons_succ, Act.put, List.setIfInBounds_toArray, List.set_cons_zero, List.set_cons_succ]
    refine wpAnyH_ready (rs := [2]) (by kernel_rfl) (by simp) ?_
    refine AllReadyH.cons rfl (fun K0 hK0 => ?_) ?_
    rotate_left
    · exact AllReadyH.nil
    refine step_func 57 #[.agg #[.int .u64 F.LS, .int .i64 F.LM, rv]] (by rfl) rfl (by simp [Act.eval]) (fun _ _ => by kernel_rfl) ?_
    refine (RC.out _ (bel_trans BX.out Z0.out)).mono ?_
    rintro e v1 ⟨rfl, b1⟩
    have Z1 := hidE (bel_trans Z0.out b1)
    clear b1
    refine ⟨_, rfl, ?_⟩
    refine hK0.out _ _ (by exact Z1.out) (fun hHeld => ?_)
    clear hK0 K0 hHeld
    simp only [Act.put, List.setIfInBounds_toArray]
    refine wpAnyH_take (i := 3) (v := ?_) rfl (by kernel_rfl) (by kernel_rfl) (by kernel_rfl) (fun _ _ _ h => h) (Or.inl ⟨by rfl, ?_⟩) Z1.out ?_
    rotate_left
    · intro wq hSw; go_simp; first | done | with_reducible rfl
    simp only [List.getElem_toArray, List.getElem_cons_zero, List.getElem_cons_succ, Act.put, List.setIfInBounds_toArray, List.set_cons_zero, List.set_cons_succ]
    refine wpAnyH_take (i := 4) (v := ?_) rfl (by kernel_rfl) (by kernel_rfl) (by kernel_rfl) (fun _ _ _ h => h) (Or.inl ⟨by rfl, ?_⟩) Z1.out ?_
    rotate_left
    · intro wq hSw; go_simp; first | done | with_reducible rfl
    simp only [List.getElem_toArray, List.getElem_cons_zero, List.getElem_cons_succ, Act.put, List.setIfInBounds_toArray, List.set_cons_zero, List.set_cons_succ]
    refine wpAnyH_take (i := 5) (v := ?_) rfl (by kernel_rfl) (by kernel_rfl) (by kernel_rfl) (fun _ _ _ h => h) (Or.inl ⟨by rfl, ?_⟩) Z1.out ?_
    rotate_left
    · intro wq hSw; go_simp; first | done | with_reducible rfl
    simp only [List.getElem_toArray, List.getElem_cons_zero, List.getElem_cons_succ, Act.put, List.setIfInBounds_toArray, List.set_cons_zero, List.set_cons_succ]
    refine wpAnyH_take (i := 6) (v := ?_) rfl (by kernel_rfl) (by kernel_rfl) (by kernel_rfl) (fun _ _ _ h => h) (Or.inl ⟨by rfl, ?_⟩) Z1.out ?_
    rotate_left
    · intro wq hSw; have cl0 := (KX.out.since hSw).cell 4; go_simp; first | done | with_reducible rfl
    simp only [List.getElem_toArray, List.getElem_cons_zero, List.getElem_cons_succ, Act.put, List.setIfInBounds_toArray, List.set_cons_zero, List.set_cons_succ]
    refine wpAnyH_take (i := 7) (v := ?_) rfl (by kernel_rfl) (by kernel_rfl) (by kernel_rfl) (fun _ _ _ h => h) (Or.inl ⟨by rfl, ?_⟩) Z1.out ?_
    rotate_left
    · intro wq hSw; go_simp; first | done | with_reducible rfl
    simp only [List.getElem_toArray, List.getElem_cons_zero, List.getElem_cons_succ, Act.put, List.setIfInBounds_toArray, List.set_cons_zero, List.set_cons_succ]
    refine wpAnyH_take (i := 8) (v := ?_) rfl (by kernel_rfl) (by kernel_rfl) (by kernel_rfl) (fun _ _ _ h => h) (Or.inl ⟨by rfl, ?_⟩) Z1.out ?_
    rotate_left
    · intro wq hSw; have cl0 := (KX.out.since hSw).cell 0; go_simp; first | done | with_reducible rfl
    simp only [List.getElem_toArray, List.getElem_cons_zero, List.getElem_cons_succ, Act.put, List.setIfInBounds_toArray, List.set_cons_zero, List.set_cons_succ]
    refine wpAnyH_ready (rs := [9]) (by kernel_rfl) (by simp) ?_
    refine AllReadyH.cons rfl (fun K0 hK0 => ?_) ?_
    rotate_left
    · exact AllReadyH.nil
    refine step_func 48 #[.int .u64 F.S, .int .i64 1] (by rfl) rfl (by simp [Act.eval]) (fun _ _ => by kernel_rfl) ?_
    refine (row_any F.S 1 _ uS (by omega)).mono ?_
    rintro e v2 ⟨rfl, rfl⟩
    refine ⟨_, rfl, ?_⟩
    refine hK0.out _ _ (by exact Z1.out) (fun hHeld => ?_)
    clear hK0 K0 hHeld
    simp only [Act.put, List.setIfInBounds_toArray]
    refine wpAnyH_take (i := 10) (v := ?_) rfl (by kernel_rfl) (by kernel_rfl) (by kernel_rfl) (fun _ _ _ h => h) (Or.inl ⟨by rfl, ?_⟩) Z1.out ?_
    rotate_left
    · intro wq hSw; go_simp; first | done | with_reducible rfl
    simp only [List.getElem_toArray, List.getElem_cons_zero, List.getElem_cons_succ, Act.put, List.setIfInBounds_toArray, List.set_cons_zero, List.set_cons_succ]
    refine wpAnyH_take (i := 11) (v := ?_) rfl (by kernel_rfl) (by kernel_rfl) (by kernel_rfl) (fun _ _ _ h => h) (Or.inl ⟨by rfl, ?_⟩) Z1.out ?_
    rotate_left
    · intro wq hSw; go_simp; first | done | with_reducible rfl
    simp only [List.getElem_toArray, List.getElem_cons_zero, List.getElem_cons_succ, Act.put, List.setIfInBounds_toArray, List.set_cons_zero, List.set_cons_succ]
    refine wpAnyH_take (i := 12) (v := ?_) rfl (by kernel_rfl) (by kernel_rfl) (by kernel_rfl) (fun _ _ _ h => h) (Or.inl ⟨by rfl, ?_⟩) Z1.out ?_
    rotate_left
    · intro wq hSw; go_simp; first | done | with_reducible rfl
    simp only [List.getElem_toArray, List.getElem_cons_zero, List.getElem_cons_succ, Act.put, List.setIfInBounds_toArray, List.set_cons_zero, List.set_cons_succ]
    refine wpAnyH_take (i := 13) (v := ?_) rfl (by kernel_rfl) (by kernel_rfl) (by kernel_rfl) (fun _ _ _ h => h) (Or.inl ⟨by rfl, ?_⟩) Z1.out ?_
    rotate_left
    · intro wq hSw; go_simp; first | done | with_reducible rfl
    simp only [List.getElem_toArray, List.getElem_cons_zero, List.getElem_cons_succ, Act.put, List.setIfInBounds_toArray, List.set_cons_zero, List.set_cons_succ]
    refine wpAnyH_take (i := 14) (v := ?_) rfl (by kernel_rfl) (by kernel_rfl) (by kernel_rfl) (fun _ _ _ h => h) (Or.inl ⟨by rfl, ?_⟩) Z1.out ?_
    rotate_left
    · intro wq hSw; go_simp; first | done | with_reducible rfl
    simp only [List.getElem_toArray, List.getElem_cons_zero, List.getElem_cons_succ, Act.put, List.setIfInBounds_toArray, List.set_cons_zero, List.set_cons_succ]
    refine wpAnyH_take (i := 15) (v := ?_) rfl (by kernel_rfl) (by kernel_rfl) (by kernel_rfl) (fun _ _ _ h => h) (Or.inl ⟨by rfl, ?_⟩) Z1.out ?_
    rotate_left
    · intro wq hSw; have cl0 := (KX.out.since hSw).cell 5; go_simp; first | done | with_reducible rfl
    simp only [List.getElem_toArray, List.getElem_cons_zero, List.getElem_cons_succ, Act.put, List.setIfInBounds_toArray, List.set_cons_zero, List.set_cons_succ]
    refine wpAnyH_take (i := 16) (v := ?_) rfl (by kernel_rfl) (by kernel_rfl) (by kernel_rfl) (fun _ _ _ h => h) (Or.inl ⟨by rfl, ?_⟩) Z1.out ?_
    rotate_left
    · intro wq hSw; go_simp; first | done | with_reducible rfl
    simp only [List.getElem_toArray, List.getElem_cons_zero, List.getElem_cons_succ, Act.put, List.setIfInBounds_toArray, List.set_cons_zero, List.set_cons_succ]
    refine wpAnyH_take (i := 17) (v := ?_) rfl (by kernel_rfl) (by kernel_rfl) (by kernel_rfl) (fun _ _ _ h => h) (Or.inl ⟨by rfl, ?_⟩) Z1.out ?_
    rotate_left
    · intro wq hSw; go_simp; first | done | with_reducible rfl
    simp only [List.getElem_toArray, List.getElem_cons_zero, List.getElem_cons_succ, Act.put, List.setIfInBounds_toArray, List.set_cons_zero, List.set_cons_succ]
    refine wpAnyH_take (i := 18) (v := ?_) rfl (by kernel_rfl) (by kernel_rfl) (by kernel_rfl) (fun _ _ _ h => h) (Or.inl ⟨by rfl, ?_⟩) Z1.out ?_
    rotate_left
    · intro wq hSw; go_simp; first | done | with_reducible rfl
    simp only [List.getElem_toArray, List.getElem_cons_zero, List.getElem_cons_succ, Act.put, List.setIfInBounds_toArray, List.set_cons_zero, List.set_cons_succ]
    refine wpAnyH_done (by kernel_rfl) ?_ _
    refine NoPanic.normal ?_
    refine hQQ.out _ _ ?_
    clear hQQ
    go_wp2_with fail
    go_ret
    exact ⟨false, rfl, ⟨fun h => (by cases h), fun h => absurd h NS.out⟩, bel_trans BX.out Z1.out⟩
  have q2 : (F.LM == 255) = true := by simpa using e
  have E2 := hidE e
  clear e
  refine letterQ ?_
  intro QQ hQQ
  have Z0 : Hid (Below X.heap.size X X.drew) := (Below.refl _ _).drew
  refine wp_region_held_drew (S := fun w2 => Below X.heap.size X w2) (by kernel_rfl) Z0.out (fun hHeld => ?_)
  clear hHeld
  generalize X.drew = q0 at Z0 ⊢
  refine wpAnyH_take (i := 0) (v := ?_) rfl (by kernel_rfl) (by kernel_rfl) (by kernel_rfl) (fun _ _ _ h => h) (Or.inl ⟨by rfl, ?_⟩) Z0.out ?_
  rotate_left
  · intro wq hSw; go_simp; first | done | with_reducible rfl
  simp only [List.getElem_toArray, List.getElem_cons_zero, Act.put, List.setIfInBounds_toArray, List.set_cons_zero, List.set_cons_succ]
  refine wpAnyH_take (i := 1) (v := ?_) rfl (by kernel_rfl) (by kernel_rfl) (by kernel_rfl) (fun _ _ _ h => h) (Or.inl ⟨by rfl, ?_⟩) Z0.out ?_
  rotate_left
  · intro wq hSw; have cl0 := (KX.out.since hSw).cell 4; have cl1 := (KX.out.since hSw).cell 5; have cl2 := (KX.out.since hSw).cell 6; go_simp; first | done | with_reducible rfl
  simp only [List.getElem_toArray, List.getElem_cons_zero, List.getElem_cons_succ, Act.put, List.setIfInBounds_toArray, List.set_cons_zero, List.set_cons_succ]
  refine wpAnyH_ready (rs := [2]) (by kernel_rfl) (by simp) ?_
  refine AllReadyH.cons rfl (fun K0 hK0 => ?_) ?_
  rotate_left
  · exact AllReadyH.nil
  refine step_func 57 #[.agg #[.int .u64 F.LS, .int .i64 F.LM, rv]] (by rfl) rfl (by simp [Act.eval]) (fun _ _ => by kernel_rfl) ?_
  refine (RC.out _ (bel_trans BX.out Z0.out)).mono ?_
  rintro e v1 ⟨rfl, b1⟩
  have Z1 := hidE (bel_trans Z0.out b1)
  clear b1
  refine ⟨_, rfl, ?_⟩
  refine hK0.out _ _ (by exact Z1.out) (fun hHeld => ?_)
  clear hK0 K0 hHeld
  simp only [Act.put, List.setIfInBounds_toArray]
  refine wpAnyH_take (i := 3) (v := ?_) rfl (by kernel_rfl) (by kernel_rfl) (by kernel_rfl) (fun _ _ _ h => h) (Or.inl ⟨by rfl, ?_⟩) Z1.out ?_
  rotate_left
  · intro wq hSw; go_simp; first | done | with_reducible rfl
  simp only [List.getElem_toArray, List.getElem_cons_zero, List.getElem_cons_succ, Act.put, List.setIfInBounds_toArray, List.set_cons_zero, List.set_cons_succ]
  refine wpAnyH_take (i := 4) (v := ?_) rfl (by kernel_rfl) (by kernel_rfl) (by kernel_rfl) (fun _ _ _ h => h) (Or.inl ⟨by rfl, ?_⟩) Z1.out ?_
  rotate_left
  · intro wq hSw; go_simp; first | done | with_reducible rfl
  simp only [List.getElem_toArray, List.getElem_cons_zero, List.getElem_cons_succ, Act.put, List.setIfInBounds_toArray, List.set_cons_zero, List.set_cons_succ]
  refine wpAnyH_take (i := 5) (v := ?_) rfl (by kernel_rfl) (by kernel_rfl) (by kernel_rfl) (fun _ _ _ h => h) (Or.inl ⟨by rfl, ?_⟩) Z1.out ?_
  rotate_left
  · intro wq hSw; go_simp; first | done | with_reducible rfl
  simp only [List.getElem_toArray, List.getElem_cons_zero, List.getElem_cons_succ, Act.put, List.setIfInBounds_toArray, List.set_cons_zero, List.set_cons_succ]
  refine wpAnyH_take (i := 6) (v := ?_) rfl (by kernel_rfl) (by kernel_rfl) (by kernel_rfl) (fun _ _ _ h => h) (Or.inl ⟨by rfl, ?_⟩) Z1.out ?_
  rotate_left
  · intro wq hSw; have cl0 := (KX.out.since hSw).cell 4; go_simp; first | done | with_reducible rfl
  simp only [List.getElem_toArray, List.getElem_cons_zero, List.getElem_cons_succ, Act.put, List.setIfInBounds_toArray, List.set_cons_zero, List.set_cons_succ]
  refine wpAnyH_take (i := 7) (v := ?_) rfl (by kernel_rfl) (by kernel_rfl) (by kernel_rfl) (fun _ _ _ h => h) (Or.inl ⟨by rfl, ?_⟩) Z1.out ?_
  rotate_left
  · intro wq hSw; go_simp; first | done | with_reducible rfl
  simp only [List.getElem_toArray, List.getElem_cons_zero, List.getElem_cons_succ, Act.put, List.setIfInBounds_toArray, List.set_cons_zero, List.set_cons_succ]
  refine wpAnyH_take (i := 8) (v := ?_) rfl (by kernel_rfl) (by kernel_rfl) (by kernel_rfl) (fun _ _ _ h => h) (Or.inl ⟨by rfl, ?_⟩) Z1.out ?_
  rotate_left
  · intro wq hSw; have cl0 := (KX.out.since hSw).cell 0; go_simp; first | done | with_reducible rfl
  simp only [List.getElem_toArray, List.getElem_cons_zero, List.getElem_cons_succ, Act.put, List.setIfInBounds_toArray, List.set_cons_zero, List.set_cons_succ]
  refine wpAnyH_ready (rs := [9]) (by kernel_rfl) (by simp) ?_
  refine AllReadyH.cons rfl (fun K0 hK0 => ?_) ?_
  rotate_left
  · exact AllReadyH.nil
  refine step_func 48 #[.int .u64 F.S, .int .i64 1] (by rfl) rfl (by simp [Act.eval]) (fun _ _ => by kernel_rfl) ?_
  refine (row_any F.S 1 _ uS (by omega)).mono ?_
  rintro e v2 ⟨rfl, rfl⟩
  refine ⟨_, rfl, ?_⟩
  refine hK0.out _ _ (by exact Z1.out) (fun hHeld => ?_)
  clear hK0 K0 hHeld
  simp only [Act.put, List.setIfInBounds_toArray]
  refine wpAnyH_take (i := 10) (v := ?_) rfl (by kernel_rfl) (by kernel_rfl) (by kernel_rfl) (fun _ _ _ h => h) (Or.inl ⟨by rfl, ?_⟩) Z1.out ?_
  rotate_left
  · intro wq hSw; go_simp; first | done | with_reducible rfl
  simp only [List.getElem_toArray, List.getElem_cons_zero, List.getElem_cons_succ, Act.put, List.setIfInBounds_toArray, List.set_cons_zero, List.set_cons_succ]
  refine wpAnyH_take (i := 11) (v := ?_) rfl (by kernel_rfl) (by kernel_rfl) (by kernel_rfl) (fun _ _ _ h => h) (Or.inl ⟨by rfl, ?_⟩) Z1.out ?_
  rotate_left
  · intro wq hSw; go_simp; first | done | with_reducible rfl
  simp only [List.getElem_toArray, List.getElem_cons_zero, List.getElem_cons_succ, Act.put, List.setIfInBounds_toArray, List.set_cons_zero, List.set_cons_succ]
  refine wpAnyH_take (i := 12) (v := ?_) rfl (by kernel_rfl) (by kernel_rfl) (by kernel_rfl) (fun _ _ _ h => h) (Or.inl ⟨by rfl, ?_⟩) Z1.out ?_
  rotate_left
  · intro wq hSw; go_simp; first | done | with_reducible rfl
  simp only [List.getElem_toArray, List.getElem_cons_zero, List.getElem_cons_succ, Act.put, List.setIfInBounds_toArray, List.set_cons_zero, List.set_cons_succ]
  refine wpAnyH_take (i := 13) (v := ?_) rfl (by kernel_rfl) (by kernel_rfl) (by kernel_rfl) (fun _ _ _ h => h) (Or.inl ⟨by rfl, ?_⟩) Z1.out ?_
  rotate_left
  · intro wq hSw; go_simp; first | done | with_reducible rfl
  simp only [List.getElem_toArray, List.getElem_cons_zero, List.getElem_cons_succ, Act.put, List.setIfInBounds_toArray, List.set_cons_zero, List.set_cons_succ]
  refine wpAnyH_take (i := 14) (v := ?_) rfl (by kernel_rfl) (by kernel_rfl) (by kernel_rfl) (fun _ _ _ h => h) (Or.inl ⟨by rfl, ?_⟩) Z1.out ?_
  rotate_left
  · intro wq hSw; go_simp; first | done | with_reducible rfl
  simp only [List.getElem_toArray, List.getElem_cons_zero, List.getElem_cons_succ, Act.put, List.setIfInBounds_toArray, List.set_cons_zero, List.set_cons_succ]
  refine wpAnyH_take (i := 15) (v := ?_) rfl (by kernel_rfl) (by kernel_rfl) (by kernel_rfl) (fun _ _ _ h => h) (Or.inl ⟨by rfl, ?_⟩) Z1.out ?_
  rotate_left
  · intro wq hSw; have cl0 := (KX.out.since hSw).cell 5; go_simp; first | done | with_reducible rfl
  simp only [List.getElem_toArray, List.getElem_cons_zero, List.getElem_cons_succ, Act.put, List.setIfInBounds_toArray, List.set_cons_zero, List.set_cons_succ]
  refine wpAnyH_take (i := 16) (v := ?_) rfl (by kernel_rfl) (by kernel_rfl) (by kernel_rfl) (fun _ _ _ h => h) (Or.inl ⟨by rfl, ?_⟩) Z1.out ?_
  rotate_left
  · intro wq hSw; go_simp; first | done | with_reducible rfl
  simp only [List.getElem_toArray, List.getElem_cons_zero, List.getElem_cons_succ, Act.put, List.setIfInBounds_toArray, List.set_cons_zero, List.set_cons_succ]
  refine wpAnyH_take (i := 17) (v := ?_) rfl (by kernel_rfl) (by kernel_rfl) (by kernel_rfl) (fun _ _ _ h => h) (Or.inl ⟨by rfl, ?_⟩) Z1.out ?_
  rotate_left
  · intro wq hSw; go_simp; first | done | with_reducible rfl
  simp only [List.getElem_toArray, List.getElem_cons_zero, List.getElem_cons_succ, Act.put, List.setIfInBounds_toArray, List.set_cons_zero, List.set_cons_succ]
  refine wpAnyH_take (i := 18) (v := ?_) rfl (by kernel_rfl) (by kernel_rfl) (by kernel_rfl) (fun _ _ _ h => h) (Or.inl ⟨by rfl, ?_⟩) Z1.out ?_
  rotate_left
  · intro wq hSw; go_simp; first | done | with_reducible rfl
  simp only [List.getElem_toArray, List.getElem_cons_zero, List.getElem_cons_succ, Act.put, List.setIfInBounds_toArray, List.set_cons_zero, List.set_cons_succ]
  refine wpAnyH_done (by kernel_rfl) ?_ _
  refine NoPanic.normal ?_
  refine hQQ.out _ _ ?_
  clear hQQ
  go_wp2_with fail
  go_ret
  exact ⟨true, rfl, ⟨fun _ => ⟨RP.out, E.out, E2.out⟩, fun _ => rfl⟩, bel_trans BX.out Z1.out⟩
theorem rightE_iff (F : Elk) : RightE F ↔ (1 ≤ F.room ∧ F.room ≤ 8 ∧ 1 ≤ F.votes ∧ F.votes ≤ 64 ∧ 1 ≤ F.bs.length ∧ F.bs.length ≤ 256) ∧ RightLi F ∧ ∀ (i : Nat) (b : Bkt), F.bs[i]? = some b → (b.es.length : Int) ≤ F.room ∧ RightBu b := by
  unfold RightE RightLi RightB RightBu
  constructor
  · rintro ⟨h1, h2, h3, h4, h5, h6, h7, h8, h9, h10⟩
    exact ⟨⟨h1, h2, h3, h4, h5, h6⟩, ⟨h7, h9, h8⟩, h10⟩
  · rintro ⟨⟨h1, h2, h3, h4, h5, h6⟩, ⟨h7, h9, h8⟩, h10⟩
    exact ⟨h1, h2, h3, h4, h5, h6, h7, h8, h9, h10⟩
set_option maxHeartbeats 6400000 in
theorem erightC_any (w : World) (x : Value) (F : Elk) (h : ElAt w x F) (uS : U F.S) (sm : SmallE F) :
    Calls Try.prog 15 #[x] w (TellsB w (RightE F)) := by
  have RL := hidE fun u (b : Below w.heap.size w u) => erightL_any u x F (h.keep (keep_of_below b)) uS (by have := sm.2.1.1; omega) fun i hi => by have := sm.2.1.2 i hi; omega
  obtain ⟨bv, rv, rfl, hB, hr⟩ := h
  obtain ⟨A, cap, b, o, rfl, hc, h3, h4⟩ := hB
  have H3 := hidE h3
  have H4 := hidE h4
  have SM := hidE sm
  obtain ⟨n, hn⟩ : ∃ n, n = F.bs.length := ⟨_, rfl⟩
  have HN := hidE hn
  have n300 := sm.1
  unfold elv at RL ⊢
  rw [← hn] at hc n300 RL ⊢
  have BX : Hid (Below w.heap.size w (w.alloc (.cells #[.int .u64 F.S, .int .i64 F.room, .int .i64 F.votes, .slice A n cap, .int .u64 F.LS, .int .i64 F.LM, rv] 28))) := bel_alloc _ _
  have KX : Hid (Blk (w.alloc (.cells #[.int .u64 F.S, .int .i64 F.room, .int .i64 F.votes, .slice A n cap, .int .u64 F.LS, .int .i64 F.LM, rv] 28)) w.heap.size 28 #[.int .u64 F.S, .int .i64 F.room, .int .i64 F.votes, .slice A n cap, .int .u64 F.LS, .int .i64 F.LM, rv]) := Blk.new _ _ _
  clear h3 h4 hr hn sm
  go_enter Try.func15, Try.ntmps15
  go_wp2_with fail
  generalize w.alloc (.cells #[.int .u64 F.S, .int .i64 F.room, .int .i64 F.votes, .slice A n cap, .int .u64 F.LS, .int .i64 F.LM, rv] 28) = X at BX KX ⊢
  refine (efits_any (n : Int) F.room F.votes _).mono ?_
  rintro e X ⟨rfl, rfl⟩
  have hX : Hid (Below X.heap.size X X) := Below.refl _ _
  cases hf : fitsE (n : Int) F.room F.votes with
  | false =>
    have NS : Hid (¬ RightE F) := fun h => by
      have := ((rightE_iff F).1 h).1
      rw [← HN.out] at this
      have := (fitsE_iff (n : Int) F.room F.votes).2 (by omega)
      rw [hf] at this
      cases this
    clear hf
    go_wp2_with fail
    go_ret
    exact ⟨false, rfl, ⟨fun h => (by cases h), fun h => absurd h NS.out⟩, BX.out⟩
  | true =>
    have FF := hidE ((fitsE_iff (n : Int) F.room F.votes).1 hf)
    clear hf
    have x0 : X.cell? ⟨w.heap.size, 0, none⟩ = some (.int .u64 F.S) := KX.out.cell 0
    have x1 : X.cell? ⟨w.heap.size, 1, none⟩ = some (.int .i64 F.room) := KX.out.cell 1
    have x2 : X.cell? ⟨w.heap.size, 2, none⟩ = some (.int .i64 F.votes) := KX.out.cell 2
    have x3 : X.cell? ⟨w.heap.size, 3, none⟩ = some (.slice A n cap) := KX.out.cell 3
    have x4 : X.cell? ⟨w.heap.size, 4, none⟩ = some (.int .u64 F.LS) := KX.out.cell 4
    have x5 : X.cell? ⟨w.heap.size, 5, none⟩ = some (.int .i64 F.LM) := KX.out.cell 5
    have x6 : X.cell? ⟨w.heap.size, 6, none⟩ = some rv := KX.out.cell 6
    go_wp2_with fail
    refine (RL.out _ BX.out).mono ?_
    rintro e u2 ⟨B, rfl, hB, b2⟩
    have B2 := hidE b2
    clear b2 x0 x1 x2 x3 x4 x5 x6
    cases B with
    | false =>
      have NS : Hid (¬ RightE F) := fun h => by cases hB.2 ((rightE_iff F).1 h).2.1
      go_wp2_with fail
      go_ret
      exact ⟨false, rfl, ⟨fun h => (by cases h), fun h => absurd h NS.out⟩, bel_trans BX.out B2.out⟩
    | true =>
      have RLI := hidE (hB.1 rfl)
      have x3 : u2.cell? ⟨w.heap.size, 3, none⟩ = some (.slice A n cap) := (KX.out.since B2.out).cell 3
      clear hB RL
      go_wp2_with fail
      clear x3
      go_loopg [4, 22] n (fun gk s4 i wr => ∃ k : Nat, (gk = n - k ∧ k ≤ n ∧ Below X.heap.size X wr ∧ ∀ (i : Nat) (b : Bkt), i < k → F.bs[i]? = some b → (b.es.length : Int) ≤ F.room ∧ RightBu b) ∧ i = .int .i64 (k : Int))
      case atStart => exact ⟨0, ⟨rfl, by omega, B2.out, fun i b hi => by omega⟩, rfl⟩
      case round =>
        obtain ⟨k, ⟨hgk, hk, hB, hS⟩, rfl⟩ := hrel
        have HB := hidE hB
        have HK := hidE hgk
        have HS := hidE hS
        clear hB hgk hS
        by_cases hz : k < n
        · obtain rfl := H3.out (by rw [← HN.out]; omega)
          obtain ⟨y, hy⟩ : ∃ y, F.bs[k]? = some y := ⟨_, List.getElem?_eq_getElem (by rw [← HN.out]; exact hz)⟩
          have HY := hidE hy
          have es20 := (SM.out.2.2 k y hy).1
          obtain ⟨ev, q1, q2, q3⟩ := H4.out k y hy
          have RB := hidE fun u (z : Below w.heap.size w u) => erightB_any u ev y.es y.ag (q3.keep (keep_of_below z)) (by omega)
          obtain ⟨A2, cp2, b2, o2, rfl, _, _, _⟩ := q3
          obtain ⟨m, hm⟩ : ∃ m, m = y.es.length := ⟨_, rfl⟩
          have HM := hidE hm
          obtain ⟨ag, hag⟩ : ∃ ag, ag = y.ag := ⟨_, rfl⟩
          have HAG := hidE hag
          rw [← hm, ← hag] at RB
          rw [← hm] at q1
          rw [← hag] at q2
          have q1 := keep_of_below (bel_trans BX.out HB.out) _ _ q1
          have q2 := keep_of_below (bel_trans BX.out HB.out) _ _ q2
          have bk : (k : Int) < (n : Int) := by omega
          have bk0 : (0 : Int) ≤ (k : Int) := by omega
          have BA : Hid (Below wr.heap.size wr (wr.alloc (.cells #[.slice A2 m cp2, .int .i64 ag] 56))) := bel_alloc _ _
          have KA : Hid (Blk (wr.alloc (.cells #[.slice A2 m cp2, .int .i64 ag] 56)) wr.heap.size 56 #[.slice A2 m cp2, .int .i64 ag]) := Blk.new _ _ _
          clear hy hm hag
          go_upto_region 6 with fail
          have B3 := hidE (bel_trans HB.out BA.out)
          have K3 := hidE (KX.out.since B3.out)
          clear BA q1 q2
          generalize wr.alloc (.cells #[.slice A2 m cp2, .int .i64 ag] 56) = Y at B3 K3 KA ⊢
          generalize wr.heap.size = g at KA ⊢
          have x1 : Y.cell? ⟨w.heap.size, 1, none⟩ = some (.int .i64 F.room) := K3.out.cell 1
          have y0 : Y.cell? ⟨g, 0, none⟩ = some (.slice A2 m cp2) := KA.out.cell 0
          have y1 : Y.cell? ⟨g, 1, none⟩ = some (.int .i64 ag) := KA.out.cell 1
          by_cases d1 : (m : Int) > F.room
          · have NS : Hid (¬ RightE F) := fun h => by have := (((rightE_iff F).1 h).2.2 k y HY.out).1; rw [← HM.out] at this; omega
            go_wp2_with fail
            go_ret
            exact ⟨false, rfl, ⟨fun h => (by cases h), fun h => absurd h NS.out⟩, bel_trans BX.out B3.out⟩
          go_wp2_with fail
          refine (RB.out _ (bel_trans BX.out B3.out)).mono ?_
          rintro e u3 ⟨B, rfl, hB, b3⟩
          have B4 := hidE (bel_trans B3.out b3)
          clear b3 B3 K3 KA x1 y0 y1
          cases B with
          | false =>
            have NS : Hid (¬ RightE F) := fun h => by
              have := (((rightE_iff F).1 h).2.2 k y HY.out).2
              have e : (⟨y.es, ag⟩ : Bkt) = y := by rw [HAG.out]
              rw [← e] at this
              cases hB.2 this
            go_wp2_with fail
            go_ret
            exact ⟨false, rfl, ⟨fun h => (by cases h), fun h => absurd h NS.out⟩, bel_trans BX.out B4.out⟩
          | true =>
            have RB2 := hidE (hB.1 rfl)
            have LE : Hid ((y.es.length : Int) ≤ F.room) := by have := HM.out; show (y.es.length : Int) ≤ F.room; omega
            clear hB
            go_wp2_with fail
            go_roundg (n - (k + 1))
            case measure => have := HK.out; omega
            case rel =>
              refine ⟨k + 1, ⟨rfl, by omega, B4.out, fun i x hi hx => ?_⟩, by go_num⟩
              by_cases ek : i = k
              · subst ek
                have := HY.out.symm.trans hx
                cases this
                have r := RB2.out
                rw [HAG.out] at r
                exact ⟨LE.out, r⟩
              · exact HS.out i x (by omega) hx
        · have bk : ¬ (k : Int) < (n : Int) := by omega
          go_wp2_with fail
          go_ret
          refine ⟨true, rfl, ⟨fun _ => (rightE_iff F).2 ⟨?_, RLI.out, fun i b hb => HS.out i b (by have := HN.out; have := (List.getElem?_eq_some_iff.1 hb).1; omega) hb⟩, fun _ => rfl⟩, bel_trans BX.out HB.out⟩
          have := FF.out
          rw [← HN.out]
          omega
end Go.Proofs.Ytihealembikkiaa
namespace Go.Proofs.Ytihealembikkiaa
open Go.RowKit Fm Bl Lt El L2 L10 L14 Go.Deep Go.Shelf
set_option linter.unusedVariables false
set_option maxRecDepth 20000
set_option linter.unusedSimpArgs false

set_option maxHeartbeats 1600000 in
theorem egetC_bad (w : World) (x : Value) (F : Elk) (s : ByteArray) (h : ElAt w x F) (uS : U F.S) (sm : SmallE F) (rt : ¬ RightE F) : Calls Try.prog 12 #[x, .string s] w fun e w' => e = .returned (.tuple #[.int .i64 0, .int .i64 0, .bool false, .bool false]) ∧ Below w.heap.size w w' := by
  have RC := hidE fun u (b : Below w.heap.size w u) => erightC_any u x F (h.keep (keep_of_below b)) uS sm
  obtain ⟨a0, c0, a1, c1, rfl⟩ := h.form
  have RT := hidE rt
  clear h sm rt
  obtain ⟨S, room, votes, bs, LS, LM, R, L, Z⟩ := F
  simp only at *
  generalize bs.length = n at *
  have BX : Hid (Below w.heap.size w (w.alloc (.cells #[.int .u64 S, .int .i64 room, .int .i64 votes, .slice a0 n c0, .int .u64 LS, .int .i64 LM, .slice a1 R c1] 28))) := bel_alloc _ _
  go_enter Try.func12, Try.ntmps12
  go_wp2_with fail
  refine (RC.out _ BX.out).mono ?_
  rintro e u1 ⟨B, rfl, hB, b1⟩
  obtain rfl : B = false := by cases B with | false => rfl | true => exact absurd (hB.1 rfl) RT.out
  have B1 := hidE (bel_trans BX.out b1)
  clear b1 hB
  go_wp2_with fail
  go_returns
  exact ⟨rfl, B1.out⟩
set_option maxHeartbeats 3200000 in
theorem egetC_core (w : World) (S room votes LS LM : Int) (A LA : Option Addr) (n cap R lcap : Nat) (s k : ByteArray) (v : Int) (f : Bool) (gx : Int) (e0 dl : Bool) (RC : Hid (∀ u, Below w.heap.size w u → Calls Try.prog 15 #[.agg #[.int .u64 S, .int .i64 room, .int .i64 votes, .slice A n cap, .int .u64 LS, .int .i64 LM, .slice LA R lcap]] u fun e w' => e = .returned (.bool true) ∧ Below u.heap.size u w')) (EC : Hid (∀ u, Below w.heap.size w u → Calls Try.prog 31 #[.agg #[.int .u64 S, .int .i64 room, .int .i64 votes, .slice A n cap, .int .u64 LS, .int .i64 LM, .slice LA R lcap], .string s] u fun e w' => e = .returned (.agg #[.string k, .int .i64 v, .bool f]) ∧ Below u.heap.size u w'))
    (GC : Hid (∀ u, Below w.heap.size w u → Calls Try.prog 32 #[.agg #[.int .u64 LS, .int .i64 LM, .slice LA R lcap], .string s] u fun e w' => e = .returned (.tuple #[.int .i64 gx, .bool dl]) ∧ Below u.heap.size u w')) (v0 : 0 ≤ v) (v1 : v ≤ 1099511627776) (g0 : 0 ≤ gx) (g1 : gx ≤ 255) (q0 : (gx == 0) = e0) (P : Value) (HP : Hid (P = if v > 0 ∧ f = false then .tuple #[.int .i64 v, .int .i64 v, .bool true, .bool false] else .tuple #[.int .i64 v, .int .i64 (v + gx), .bool e0, .bool (!dl)])) :
    Calls Try.prog 12 #[.agg #[.int .u64 S, .int .i64 room, .int .i64 votes, .slice A n cap, .int .u64 LS, .int .i64 LM, .slice LA R lcap], .string s] w fun e w' => e = .returned P ∧ Below w.heap.size w w' := by
  have BX : Hid (Below w.heap.size w (w.alloc (.cells #[.int .u64 S, .int .i64 room, .int .i64 votes, .slice A n cap, .int .u64 LS, .int .i64 LM, .slice LA R lcap] 28))) := bel_alloc _ _
  have KX : Hid (Blk (w.alloc (.cells #[.int .u64 S, .int .i64 room, .int .i64 votes, .slice A n cap, .int .u64 LS, .int .i64 LM, .slice LA R lcap] 28)) w.heap.size 28 #[.int .u64 S, .int .i64 room, .int .i64 votes, .slice A n cap, .int .u64 LS, .int .i64 LM, .slice LA R lcap]) := Blk.new _ _ _
  go_enter Try.func12, Try.ntmps12
  go_wp2_with fail
  generalize w.alloc (.cells #[.int .u64 S, .int .i64 room, .int .i64 votes, .slice A n cap, .int .u64 LS, .int .i64 LM, .slice LA R lcap] 28) = X at BX KX ⊢
  refine (RC.out _ BX.out).mono ?_
  rintro e u1 ⟨rfl, b1⟩
  have B1 := hidE (bel_trans BX.out b1)
  have K1 := hidE (KX.out.since b1)
  clear b1 BX KX RC
  have x0 : u1.cell? ⟨w.heap.size, 0, none⟩ = some (.int .u64 S) := K1.out.cell 0
  have x1 : u1.cell? ⟨w.heap.size, 1, none⟩ = some (.int .i64 room) := K1.out.cell 1
  have x2 : u1.cell? ⟨w.heap.size, 2, none⟩ = some (.int .i64 votes) := K1.out.cell 2
  have x3 : u1.cell? ⟨w.heap.size, 3, none⟩ = some (.slice A n cap) := K1.out.cell 3
  have x4 : u1.cell? ⟨w.heap.size, 4, none⟩ = some (.int .u64 LS) := K1.out.cell 4
  have x5 : u1.cell? ⟨w.heap.size, 5, none⟩ = some (.int .i64 LM) := K1.out.cell 5
  have x6 : u1.cell? ⟨w.heap.size, 6, none⟩ = some (.slice LA R lcap) := K1.out.cell 6
  go_wp2_with fail
  refine (EC.out _ B1.out).mono ?_
  rintro e u2 ⟨rfl, b2⟩
  have B2 := hidE (bel_trans B1.out b2)
  have K2 := hidE (K1.out.since b2)
  clear b2 B1 K1 EC x0 x1 x2 x3 x4 x5 x6
  have BA : Hid (Below u2.heap.size u2 (u2.alloc (.cells #[.string k, .int .i64 v, .bool f] 76))) := bel_alloc _ _
  have KA : Hid (Blk (u2.alloc (.cells #[.string k, .int .i64 v, .bool f] 76)) u2.heap.size 76 #[.string k, .int .i64 v, .bool f]) := Blk.new _ _ _
  go_upto_region 4 with fail
  have B3 := hidE (bel_trans B2.out BA.out)
  have K3 := hidE (K2.out.since BA.out)
  clear BA B2 K2
  generalize u2.alloc (.cells #[.string k, .int .i64 v, .bool f] 76) = Y at B3 K3 KA ⊢
  generalize u2.heap.size = g at KA ⊢
  have y1 : Y.cell? ⟨g, 1, none⟩ = some (.int .i64 v) := KA.out.cell 1
  have y2 : Y.cell? ⟨g, 2, none⟩ = some (.bool f) := KA.out.cell 2
  by_cases vp : v > 0
  · cases f with
    | false =>
      have PP : Hid (P = .tuple #[.int .i64 v, .int .i64 v, .bool true, .bool false]) := hidE (by rw [HP.out, if_pos ⟨vp, rfl⟩])
      clear HP
      go_wp2_with fail
      go_quiet (fail)
      go_wp2_with fail
      go_returns
      exact ⟨by first | (rw [PP.out]; done) | (rw [PP.out]; simp), below_drewN B3.out _⟩
    | true =>
      have PP : Hid (P = .tuple #[.int .i64 v, .int .i64 (v + gx), .bool e0, .bool (!dl)]) := hidE (by rw [HP.out, if_neg (fun z => by cases z.2)])
      clear HP
      have x4 : Y.cell? ⟨w.heap.size, 4, none⟩ = some (.int .u64 LS) := K3.out.cell 4
      have x5 : Y.cell? ⟨w.heap.size, 5, none⟩ = some (.int .i64 LM) := K3.out.cell 5
      have x6 : Y.cell? ⟨w.heap.size, 6, none⟩ = some (.slice LA R lcap) := K3.out.cell 6
      go_wp2_with fail
      refine (GC.out _ B3.out).mono ?_
      rintro e u3 ⟨rfl, b3⟩
      have B4 := hidE (bel_trans B3.out b3)
      have y1 : u3.cell? ⟨g, 1, none⟩ = some (.int .i64 v) := (KA.out.since b3).cell 1
      clear b3 B3 K3 KA x4 x5 x6
      cases dl with
      | false =>
        go_wp2_with fail
        go_quiet (fail)
        go_wp2_with fail
        go_returns
        exact ⟨by first | (rw [PP.out]; done) | (rw [PP.out]; simp), below_drewN B4.out _⟩
      | true =>
        go_wp2_with fail
        go_quiet (fail)
        go_wp2_with fail
        go_returns
        exact ⟨by first | (rw [PP.out]; done) | (rw [PP.out]; simp), below_drewN B4.out _⟩
  · have PP : Hid (P = .tuple #[.int .i64 v, .int .i64 (v + gx), .bool e0, .bool (!dl)]) := hidE (by rw [HP.out, if_neg (fun z => vp z.1)])
    clear HP
    have ve : v = 0 := by omega
    subst ve
    clear vp
    have x4 : Y.cell? ⟨w.heap.size, 4, none⟩ = some (.int .u64 LS) := K3.out.cell 4
    have x5 : Y.cell? ⟨w.heap.size, 5, none⟩ = some (.int .i64 LM) := K3.out.cell 5
    have x6 : Y.cell? ⟨w.heap.size, 6, none⟩ = some (.slice LA R lcap) := K3.out.cell 6
    go_wp2_with fail
    refine (GC.out _ B3.out).mono ?_
    rintro e u3 ⟨rfl, b3⟩
    have B4 := hidE (bel_trans B3.out b3)
    have y1 : u3.cell? ⟨g, 1, none⟩ = some (.int .i64 0) := (KA.out.since b3).cell 1
    clear b3 B3 K3 KA x4 x5 x6
    cases dl with
    | false =>
      go_wp2_with fail
      go_quiet (fail)
      go_wp2_with fail
      go_returns
      exact ⟨by first | (rw [PP.out]; done) | (rw [PP.out]; simp), below_drewN B4.out _⟩
    | true =>
      go_wp2_with fail
      go_quiet (fail)
      go_wp2_with fail
      go_returns
      exact ⟨by first | (rw [PP.out]; done) | (rw [PP.out]; simp), below_drewN B4.out _⟩
theorem egetC_ok (w : World) (x : Value) (S : Int) (room votes : Int) (bs : List Bkt) (R c : Nat) (Z : Nat → Nat → Int) (s : ByteArray) (b : Bkt) (lo hi : Int) (ex fu : Bool) (h : ElAt w x (elF S room votes bs R c Z)) (uS : U S) (rt : RightE (elF S room votes bs R c Z)) (sh : ShortE bs) (hs : s.size ≤ 100) (hb : bs[placeN S s bs.length 0]? = some b) (hg : getE R c (rowF S 1) b Z s = (lo, hi, ex, fu)) :
    Calls Try.prog 12 #[x, .string s] w fun e w' => e = .returned (.tuple #[.int .i64 lo, .int .i64 hi, .bool ex, .bool fu]) ∧ Below w.heap.size w w' := by
  have sm := small_of rt sh
  have ok : OkP 255 R c Z := rt.2.2.2.2.2.2.1.ok
  have b256 : bs.length ≤ 256 := rt.2.2.2.2.2.1
  have rb : RightB room b := rt.2.2.2.2.2.2.2.2.2 _ b hb
  have r8 : room ≤ 8 := rt.2.1
  have RC := hidE fun u (b : Below w.heap.size w u) => (erightC_any u x _ (h.keep (keep_of_below b)) uS sm).mono fun e w' q => (by
    obtain ⟨B, e1, e2, e3⟩ := q
    rw [e2.2 rt] at e1
    exact ⟨e1, e3⟩ : e = .returned (.bool true) ∧ Below u.heap.size u w')
  obtain ⟨bv, rv, hx, hB, hr⟩ := id h
  obtain ⟨A, cap, _, _, rfl, _, _⟩ := hB
  obtain ⟨LA, lcap, _, _, rfl, _⟩ := hr.read
  have GC := hidE fun u (b : Below w.heap.size w u) => get_ok u (.agg #[.int .u64 (rowF S 1), .int .i64 255, .slice LA R lcap]) (rowF S 1) 255 R c Z s (rowsI_sk (F := elF S room votes bs R c Z) (hr.keep (keep_of_below b))) ok (rowF_U S 1) (by omega)
  have g0 : 0 ≤ getF 255 Z (placeN (rowF S 1) s c) R := getF_nn ok (fun i hi => placeN_lt _ _ _ _ ok.2.2.2.2.1) (Nat.le_refl _)
  have g1 : getF 255 Z (placeN (rowF S 1) s c) R ≤ 255 := (getF_le _ _ _ _).1
  obtain ⟨gx, hgx⟩ : ∃ gx, gx = getF 255 Z (placeN (rowF S 1) s c) R := ⟨_, rfl⟩
  have core : ∀ k v f, FoundE b.es s k v f → 0 ≤ v → v ≤ 1099511627776 → Calls Try.prog 12 #[x, .string s] w fun e w' => e = .returned (if v > 0 ∧ f = false then .tuple #[.int .i64 v, .int .i64 v, .bool true, .bool false] else .tuple #[.int .i64 v, .int .i64 (v + gx), .bool (decide (gx = 0)), .bool (!decide (gx < 255))]) ∧ Below w.heap.size w w' := fun k v f hf v0 v1 => by
    have EC := hidE fun u (q : Below w.heap.size w u) => eentry_any u x (elF S room votes bs R c Z) s k v f b (h.keep (keep_of_below q)) uS (by omega) (by show bs.length ≤ 1000; omega) hb (by have := rb.1; omega) hf
    rw [hx] at RC EC ⊢
    rw [← hgx] at g0 g1 GC
    exact egetC_core w S room votes (rowF S 1) 255 A LA bs.length cap R lcap s k v f gx _ _ RC EC GC v0 v1 g0 g1 (by rw [Bool.eq_iff_iff]; simp) _ (hidE rfl)
  rw [← hgx] at g0 g1
  cases ga : atE b.es s with
  | none =>
    rw [getE_no ga, ← hgx] at hg
    simp only [Prod.mk.injEq] at hg
    obtain ⟨rfl, rfl, rfl, rfl⟩ := hg
    refine (core ⟨#[]⟩ 0 false (Or.inl ⟨ga, rfl, rfl, rfl⟩) (by omega) (by omega)).mono fun e w' q => ⟨?_, q.2⟩
    rw [q.1, if_neg (by omega), Int.zero_add]
    have : (!decide (gx < 255)) = decide (gx = 255) := by rw [Bool.eq_iff_iff]; simp; omega
    rw [this]
  | some i =>
    obtain ⟨e, he, _⟩ := atE_some ga
    have r := rb.2.2.2 i e he
    rw [getE_at ga he, ← hgx] at hg
    refine (core e.k e.v e.f (Or.inr ⟨i, ga, he⟩) (by omega) (by omega)).mono fun e2 w' q => ⟨?_, q.2⟩
    rw [q.1]
    by_cases ef : e.f = false
    · rw [if_pos ef] at hg
      simp only [Prod.mk.injEq] at hg
      obtain ⟨rfl, rfl, rfl, rfl⟩ := hg
      rw [if_pos ⟨by omega, ef⟩]
    · rw [if_neg ef] at hg
      simp only [Prod.mk.injEq] at hg
      obtain ⟨rfl, rfl, rfl, rfl⟩ := hg
      rw [if_neg (fun z => ef z.2)]
      have : (!decide (gx < 255)) = decide (gx = 255) := by rw [Bool.eq_iff_iff]; simp; omega
      rw [this]
end Go.Proofs.Ytihealembikkiaa
