
/-
  The document's answer of layer 15 (elastic): the place of a key, entries with one at a place; how often a key stands in a list.
-/
import Derived.Test.YtihealembikkiaaElMem
import Derived.Test.YtihealembikkiaaLstRGrow
import Derived.Test.YtihealembikkiaaRegKit
import Derived.BigQuiet
namespace Go.Proofs.Ytihealembikkiaa
open Go.RowKit Fm Bl Lt El L2 L14 Go.Deep
set_option linter.unusedVariables false
set_option maxRecDepth 20000

theorem hidE {p : Prop} (h : p) : Hid p := h
set_option maxHeartbeats 1600000 in
theorem eat_any (w : World) (ev : Value) (ag : Int) (l : List Ent) (s : ByteArray) (h : EntsE w ev l) (hl : l.length ≤ 100000) :
    Calls Try.prog 38 #[.agg #[ev, .int .i64 ag], .string s] w fun e w' => e = .returned (.int .i64 (atI l s)) ∧ Below w.heap.size w w' := by
  obtain ⟨A, cap, b, o, rfl, hc, h3, h4⟩ := h
  have H3 := hidE h3
  have H4 := hidE h4
  obtain ⟨n, hn⟩ : ∃ n, n = l.length := ⟨_, rfl⟩
  have HN := hidE hn
  rw [← hn] at hc hl ⊢
  have BX : Hid (Below w.heap.size w (w.alloc (.cells #[.slice A n cap, .int .i64 ag] 74))) := bel_alloc _ _
  have KX : Hid (Blk (w.alloc (.cells #[.slice A n cap, .int .i64 ag] 74)) w.heap.size 74 #[.slice A n cap, .int .i64 ag]) := Blk.new _ _ _
  clear h3 h4 hn
  go_enter Try.func38, Try.ntmps38
  go_wp2_with fail
  generalize w.alloc (.cells #[.slice A n cap, .int .i64 ag] 74) = X at BX KX ⊢
  have x0 : X.cell? ⟨w.heap.size, 0, none⟩ = some (.slice A n cap) := KX.out.cell 0
  go_loop [5] (fun i => ∃ k : Nat, (k ≤ n ∧ ∀ j x, j < k → l[j]? = some x → x.k ≠ s) ∧ i = .int .i64 (k : Int)) (fun i => n - (intOf i).toNat)
  case atStart => exact ⟨0, ⟨by omega, fun j x hj => by omega⟩, rfl⟩
  case round =>
    obtain ⟨k, hk, rfl⟩ := hrel
    have HK := hidE hk.2
    have hkn := hk.1
    clear hk
    by_cases hz : k < n
    · obtain rfl := H3.out (by rw [← HN.out]; omega)
      obtain ⟨y, hy⟩ : ∃ y, l[k]? = some y := ⟨_, List.getElem?_eq_getElem (by rw [← HN.out]; exact hz)⟩
      obtain ⟨c1, _, _⟩ := H4.out k y hy
      have c1 := keep_of_below BX.out _ _ c1
      obtain ⟨t, d, f⟩ := y
      simp only at c1
      have HY : Hid (l[k]? = some ⟨t, d, f⟩) := hy
      have bk : (k : Int) < (n : Int) := by omega
      have bk0 : (0 : Int) ≤ (k : Int) := by omega
      clear hy
      by_cases e : t = s
      · have q : (t.toList == s.toList) = true := by rw [str_eq, decide_eq_true e]
        have HE := hidE e
        clear e
        go_wp2_with fail
        go_ret
        rw [atI_some (atE_find HY.out HE.out HK.out)]
        exact ⟨rfl, BX.out⟩
      · have q : (t.toList == s.toList) = false := by rw [str_eq, decide_eq_false e]
        have HE := hidE e
        clear e
        go_wp2_with fail
        go_round
        case rel =>
          refine ⟨k + 1, ⟨by omega, fun j x hj hx => ?_⟩, by go_num⟩
          by_cases ej : j = k
          · subst ej
            have := HY.out.symm.trans hx
            cases this
            exact HE.out
          · exact HK.out j x (by omega) hx
        case measure => simp [intOf]; omega
    · have bk : ¬ (k : Int) < (n : Int) := by omega
      go_wp2_with fail
      go_ret
      rw [atI_none (atE_miss fun j x hx => HK.out j x (by have := HN.out; have := (List.getElem?_eq_some_iff.1 hx).1; omega) hx)]
      exact ⟨rfl, BX.out⟩
set_option maxHeartbeats 1600000 in
theorem eplace_any (w : World) (x : Value) (F : Elk) (s : ByteArray) (h : ElAt w x F) (uS : U F.S) (hs : s.size ≤ 100000) (hn : 1 ≤ F.bs.length) (hn1 : F.bs.length ≤ 1000) :
    Calls Try.prog 26 #[x, .string s] w fun e w' => e = .returned (.int .i64 (placeN F.S s F.bs.length 0 : Int)) ∧ Below w.heap.size w w' := by
  obtain ⟨bv, rv, rfl, hb, hr⟩ := h
  obtain ⟨A, cap, b, o, rfl, hc, _⟩ := hb
  obtain ⟨n, hnn⟩ : ∃ n, n = F.bs.length := ⟨_, rfl⟩
  have BX : Hid (Below w.heap.size w (w.alloc (.cells #[.int .u64 F.S, .int .i64 F.room, .int .i64 F.votes, .slice A n cap, .int .u64 F.LS, .int .i64 F.LM, rv] 32))) := bel_alloc _ _
  have KX : Hid (Blk (w.alloc (.cells #[.int .u64 F.S, .int .i64 F.room, .int .i64 F.votes, .slice A n cap, .int .u64 F.LS, .int .i64 F.LM, rv] 32)) w.heap.size 32 #[.int .u64 F.S, .int .i64 F.room, .int .i64 F.votes, .slice A n cap, .int .u64 F.LS, .int .i64 F.LM, rv]) := Blk.new _ _ _
  rw [← hnn] at hn hn1 ⊢
  have HP : Hid (cellF (rowF F.S (0 : Nat)) s n = (placeN F.S s n 0 : Int)) := placeN_eq F.S s n 0 hn
  clear hr hc hnn
  go_enter Try.func26, Try.ntmps26
  unfold elv
  go_wp2_with fail
  generalize w.alloc (.cells #[.int .u64 F.S, .int .i64 F.room, .int .i64 F.votes, .slice A n cap, .int .u64 F.LS, .int .i64 F.LM, rv] 32) = X at BX KX ⊢
  have K0 : Hid (∀ u, Below X.heap.size X u → u.cell? ⟨w.heap.size, 0, none⟩ = some (.int .u64 F.S)) := fun u h => (KX.out.since h).cell 0
  have K3 : Hid (∀ u, Below X.heap.size X u → u.cell? ⟨w.heap.size, 3, none⟩ = some (.slice A n cap)) := fun u h => (KX.out.since h).cell 3
  refine letterQ ?_
  intro QQ hQQ
  have Z0 : Hid (Below X.heap.size X X.drew) := (Below.refl _ _).drew
  refine wp_region_held_drew (S := fun w2 => Below X.heap.size X w2) (by kernel_rfl) Z0.out (fun hHeld => ?_)
  clear hHeld
  generalize X.drew = q0 at Z0 ⊢
  refine wpAnyH_take (i := 0) (v := ?_) rfl (by kernel_rfl) (by kernel_rfl) (by kernel_rfl) (fun _ _ _ h => h) (Or.inl ⟨by rfl, ?_⟩) Z0.out ?_
  rotate_left
  · intro wq hSw; go_simp; first | done | with_reducible rfl
  simp only [List.getElem_toArray, List.getElem_cons_zero, Act.put, List.setIfInBounds_toArray, List.set_cons_zero, List.set_cons_succ]
  refine wpAnyH_take (i := 1) (v := ?_) rfl (by kernel_rfl) (by kernel_rfl) (by kernel_rfl) (fun _ _ _ h => h) (Or.inl ⟨by rfl, ?_⟩) Z0.out ?_
  rotate_left
  · intro wq hSw; have cl0 := K0.out _ hSw; go_simp; first | done | with_reducible rfl
  simp only [List.getElem_toArray, List.getElem_cons_zero, List.getElem_cons_succ, Act.put, List.setIfInBounds_toArray, List.set_cons_zero, List.set_cons_succ]
  refine wpAnyH_take (i := 3) (v := ?_) rfl (by kernel_rfl) (by kernel_rfl) (by kernel_rfl) (fun _ _ _ h => h) (Or.inl ⟨by rfl, ?_⟩) Z0.out ?_
  rotate_left
  · intro wq hSw; go_simp; first | done | with_reducible rfl
  simp only [List.getElem_toArray, List.getElem_cons_zero, List.getElem_cons_succ, Act.put, List.setIfInBounds_toArray, List.set_cons_zero, List.set_cons_succ]
  refine wpAnyH_take (i := 4) (v := ?_) rfl (by kernel_rfl) (by kernel_rfl) (by kernel_rfl) (fun _ _ _ h => h) (Or.inl ⟨by rfl, ?_⟩) Z0.out ?_
  rotate_left
  · intro wq hSw; go_simp; first | done | with_reducible rfl
  simp only [List.getElem_toArray, List.getElem_cons_zero, List.getElem_cons_succ, Act.put, List.setIfInBounds_toArray, List.set_cons_zero, List.set_cons_succ]
  refine wpAnyH_take (i := 5) (v := ?_) rfl (by kernel_rfl) (by kernel_rfl) (by kernel_rfl) (fun _ _ _ h => h) (Or.inl ⟨by rfl, ?_⟩) Z0.out ?_
  rotate_left
  · intro wq hSw; have cl0 := K3.out _ hSw; go_simp; first | done | with_reducible rfl
  simp only [List.getElem_toArray, List.getElem_cons_zero, List.getElem_cons_succ, Act.put, List.setIfInBounds_toArray, List.set_cons_zero, List.set_cons_succ]
  refine wpAnyH_take (i := 6) (v := ?_) rfl (by kernel_rfl) (by kernel_rfl) (by kernel_rfl) (fun _ _ _ h => h) (Or.inl ⟨by rfl, ?_⟩) Z0.out ?_
  rotate_left
  · intro wq hSw; go_simp; first | done | with_reducible rfl
  simp only [List.getElem_toArray, List.getElem_cons_zero, List.getElem_cons_succ, Act.put, List.setIfInBounds_toArray, List.set_cons_zero, List.set_cons_succ]
  refine wpAnyH_ready (rs := [2]) (by kernel_rfl) (by simp) ?_
  refine AllReadyH.cons rfl (fun K0 hK0 => ?_) ?_
  rotate_left
  · exact AllReadyH.nil
  refine step_func 37 #[.int .u64 F.S, .int .i64 0] (by rfl) rfl (by simp [Act.eval]) (fun _ _ => by kernel_rfl) ?_
  refine (rrow_any F.S 0 _ uS (by omega)).mono ?_
  rintro e u1 ⟨rfl, rfl⟩
  refine ⟨_, rfl, ?_⟩
  refine hK0.out _ _ (by exact Z0.out) (fun hHeld => ?_)
  clear hK0 K0 hHeld
  simp only [Act.put, List.setIfInBounds_toArray]
  refine wpAnyH_ready (rs := [7]) (by kernel_rfl) (by simp) ?_
  refine AllReadyH.cons rfl (fun K0 hK0 => ?_) ?_
  rotate_left
  · exact AllReadyH.nil
  refine step_func 50 #[.int .u64 (rowF F.S (0 : Nat)), .string s, .int .i64 (n : Int)] (by rfl) rfl (by simp [Act.eval]) (fun _ _ => by kernel_rfl) ?_
  refine (rcell_any _ s n _ (rowF_U F.S (0 : Nat)) hs hn (by omega)).mono ?_
  rintro e u2 ⟨rfl, b2⟩
  have Z2 : Hid (Below X.heap.size X u2) := bel_trans Z0.out b2
  clear b2
  refine ⟨_, rfl, ?_⟩
  refine hK0.out _ _ (by exact Z2.out) (fun hHeld => ?_)
  clear hK0 K0 hHeld
  simp only [Act.put]
  refine wpAnyH_take (i := 8) (v := ?_) rfl (by kernel_rfl) (by kernel_rfl) (by kernel_rfl) (fun _ _ _ h => h) (Or.inl ⟨by rfl, ?_⟩) Z2.out ?_
  rotate_left
  · intro wq hSw; go_simp; first | done | with_reducible rfl
  simp only [List.getElem_toArray, List.getElem_cons_zero, List.getElem_cons_succ, Act.put, List.setIfInBounds_toArray, List.set_cons_zero, List.set_cons_succ]
  refine wpAnyH_done (by kernel_rfl) ?_ _
  refine NoPanic.normal ?_
  refine hQQ.out _ _ ?_
  clear hQQ
  go_wp2_with fail
  go_ret
  exact ⟨ret_int HP.out, bel_trans BX.out Z2.out⟩
end Go.Proofs.Ytihealembikkiaa
