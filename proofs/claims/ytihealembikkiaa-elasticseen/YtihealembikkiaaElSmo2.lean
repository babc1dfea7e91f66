
/-
  Small calls of layer 15 (elastic), more of them: what they answer.
-/
import Derived.Test.YtihealembikkiaaElSmo
import Derived.Deep.Cut
namespace Go.Proofs.Ytihealembikkiaa
open Go.RowKit Fm Bl Lt El L2 L14 Go.Deep Go.Shelf
set_option linter.unusedVariables false
set_option maxRecDepth 20000
set_option linter.unusedSimpArgs false

/-- May a sketch have such numbers? -/
def fitsE (n room votes : Int) : Bool := decide (1 ≤ n ∧ n ≤ 256 ∧ 1 ≤ room ∧ room ≤ 8 ∧ 1 ≤ votes ∧ votes ≤ 64)
theorem fitsE_iff (n room votes : Int) : fitsE n room votes = true ↔ 1 ≤ n ∧ n ≤ 256 ∧ 1 ≤ room ∧ room ≤ 8 ∧ 1 ≤ votes ∧ votes ≤ 64 := by unfold fitsE; exact decide_eq_true_iff
set_option maxHeartbeats 1600000 in
theorem efits_any (n room votes : Int) (w : World) : Calls Try.prog 39 #[.int .i64 n, .int .i64 room, .int .i64 votes] w fun e w' => e = .returned (.bool (fitsE n room votes)) ∧ w' = w := by
  by_cases c0 : 1 ≤ n
  rotate_left
  · have E : Hid (fitsE n room votes = false) := decide_eq_false (by omega)
    go_enter Try.func39, Try.ntmps39
    go_wp2
    go_ret
    exact ⟨by rw [E.out]; rfl, rfl⟩
  by_cases c1 : n ≤ 256
  rotate_left
  · have E : Hid (fitsE n room votes = false) := decide_eq_false (by omega)
    go_enter Try.func39, Try.ntmps39
    go_wp2
    go_ret
    exact ⟨by rw [E.out]; rfl, rfl⟩
  by_cases c2 : 1 ≤ room
  rotate_left
  · have E : Hid (fitsE n room votes = false) := decide_eq_false (by omega)
    go_enter Try.func39, Try.ntmps39
    go_wp2
    go_ret
    exact ⟨by rw [E.out]; rfl, rfl⟩
  by_cases c3 : room ≤ 8
  rotate_left
  · have E : Hid (fitsE n room votes = false) := decide_eq_false (by omega)
    go_enter Try.func39, Try.ntmps39
    go_wp2
    go_ret
    exact ⟨by rw [E.out]; rfl, rfl⟩
  by_cases c4 : 1 ≤ votes
  rotate_left
  · have E : Hid (fitsE n room votes = false) := decide_eq_false (by omega)
    go_enter Try.func39, Try.ntmps39
    go_wp2
    go_ret
    exact ⟨by rw [E.out]; rfl, rfl⟩
  by_cases c5 : votes ≤ 64
  rotate_left
  · have E : Hid (fitsE n room votes = false) := decide_eq_false (by omega)
    go_enter Try.func39, Try.ntmps39
    go_wp2
    go_ret
    exact ⟨by rw [E.out]; rfl, rfl⟩
  have E : Hid (fitsE n room votes = true) := decide_eq_true (by omega)
  go_enter Try.func39, Try.ntmps39
  go_wp2
  go_ret
  exact ⟨by rw [E.out]; rfl, rfl⟩
theorem emore_full (w : World) (g i : Nat) (h : w.cell? ⟨g, i, none⟩ = some (.int .i64 1099511627776)) : Calls Try.prog 55 #[.pointer (some ⟨g, i, none⟩)] w fun e w' => e = .returned (.int .i64 5) ∧ w' = w := by
  go_enter Try.func55, Try.ntmps55
  go_wp2_with fail
  go_ret
  exact ⟨rfl, rfl⟩
theorem emore_ok (w : World) (g i : Nat) (v : Int) (h : w.cell? ⟨g, i, none⟩ = some (.int .i64 v)) (f : w.frozen? ⟨g, i, none⟩ = false) (v0 : 0 ≤ v) (v1 : v < 1099511627776) : Calls Try.prog 55 #[.pointer (some ⟨g, i, none⟩)] w fun e w' => e = .returned (.int .i64 0) ∧ w' = w.setCell ⟨g, i, none⟩ (.int .i64 (v + 1)) := by
  have q : (v == 1099511627776) = false := by simp; omega
  go_enter Try.func55, Try.ntmps55
  go_wp2_with fail
  go_ret
  exact ⟨rfl, rfl⟩
set_option maxHeartbeats 1600000 in
theorem ebucketOf_any (w : World) (x : Value) (F : Elk) (s : ByteArray) (h : ElAt w x F) (uS : U F.S) (hs : s.size ≤ 100000) (hn : 1 ≤ F.bs.length) (hn1 : F.bs.length ≤ 1000) :
    Calls Try.prog 53 #[x, .string s] w fun e w' => e = .returned (.int .i64 (placeN F.S s F.bs.length 0 : Int)) ∧ Below w.heap.size w w' := by
  obtain ⟨bv, rv, rfl, hb, hr⟩ := h
  obtain ⟨A, cap, b, o, rfl, hc, _⟩ := hb
  obtain ⟨n, hnn⟩ : ∃ n, n = F.bs.length := ⟨_, rfl⟩
  have BX : Hid (Below w.heap.size w (w.alloc (.cells #[.int .u64 F.S, .int .i64 F.room, .int .i64 F.votes, .slice A n cap, .int .u64 F.LS, .int .i64 F.LM, rv] 28))) := bel_alloc _ _
  have KX : Hid (Blk (w.alloc (.cells #[.int .u64 F.S, .int .i64 F.room, .int .i64 F.votes, .slice A n cap, .int .u64 F.LS, .int .i64 F.LM, rv] 28)) w.heap.size 28 #[.int .u64 F.S, .int .i64 F.room, .int .i64 F.votes, .slice A n cap, .int .u64 F.LS, .int .i64 F.LM, rv]) := Blk.new _ _ _
  rw [← hnn] at hn hn1 ⊢
  have HP : Hid (cellF (rowF F.S (0 : Nat)) s n = (placeN F.S s n 0 : Int)) := placeN_eq F.S s n 0 hn
  have ur := rowF_U F.S (0 : Nat)
  generalize hQ : rowF F.S (0 : Nat) = Q at HP ur
  have HQ := hidE hQ
  have RO : Hid (∀ w, Calls Try.prog 48 #[.int .u64 F.S, .int .i64 0] w fun e w' => e = .returned (.int .u64 Q) ∧ w' = w) := fun w => by have := row_any F.S 0 w uS (by omega); rw [HQ.out] at this; exact this
  have CE : Hid (∀ w, Calls Try.prog 76 #[.int .u64 Q, .string s, .int .i64 (n : Int)] w fun e w' => e = .returned (.int .i64 (cellF Q s n)) ∧ w' = w) := fun w => cell_any Q s n w ur (by omega) (by omega) (by omega)
  clear hr hc hnn hQ
  go_enter Try.func53, Try.ntmps53
  unfold elv
  go_wp2_with fail
  generalize w.alloc (.cells #[.int .u64 F.S, .int .i64 F.room, .int .i64 F.votes, .slice A n cap, .int .u64 F.LS, .int .i64 F.LM, rv] 28) = X at BX KX ⊢
  have x0 : X.cell? ⟨w.heap.size, 0, none⟩ = some (.int .u64 F.S) := KX.out.cell 0
  have x3 : X.cell? ⟨w.heap.size, 3, none⟩ = some (.slice A n cap) := KX.out.cell 3
  go_quiet ((first | (go_at_call 48; exact Calls.quiet_of_same (RO.out _)) | (go_at_call 76; exact Calls.quiet_of_same (CE.out _))))
  go_wp2_with fail
  go_ret
  exact ⟨ret_int HP.out, below_drewN BX.out nq⟩
/-- A key's entry; one without votes, if there is none. -/
def FoundE (l : List Ent) (s k : ByteArray) (v : Int) (f : Bool) : Prop := (atE l s = none ∧ k = ⟨#[]⟩ ∧ v = 0 ∧ f = false) ∨ ∃ i, atE l s = some i ∧ l[i]? = some ⟨k, v, f⟩
set_option maxHeartbeats 3200000 in
theorem eentry_any (w : World) (x : Value) (F : Elk) (s k : ByteArray) (v : Int) (f : Bool) (b : Bkt) (h : ElAt w x F) (uS : U F.S) (hs : s.size ≤ 100000) (hn1 : F.bs.length ≤ 1000) (hb : F.bs[placeN F.S s F.bs.length 0]? = some b) (hl : b.es.length ≤ 100000) (hf : FoundE b.es s k v f) :
    Calls Try.prog 31 #[x, .string s] w fun e w' => e = .returned (.agg #[.string k, .int .i64 v, .bool f]) ∧ Below w.heap.size w w' := by
  have hn : 1 ≤ F.bs.length := by have := (List.getElem?_eq_some_iff.1 hb).1; omega
  have PC := hidE fun u (bb : Below w.heap.size w u) => ebucketOf_any u x F s (h.keep (keep_of_below bb)) uS hs hn hn1
  obtain ⟨bv, rv, rfl, hB, hr⟩ := h
  obtain ⟨A, cap, bb, o, rfl, hc, h3, h4⟩ := hB
  obtain rfl := h3 (by omega)
  have HP := (List.getElem?_eq_some_iff.1 hb).1
  obtain ⟨ev, q1, _, q3⟩ := h4 _ b hb
  have EA := hidE fun u (z : Below w.heap.size w u) => efind_any u ev b.es s (q3.keep (keep_of_below z)) hl
  obtain ⟨A2, cp2, b2, o2, rfl, hc2, h5, h6⟩ := q3
  obtain ⟨n, hnn⟩ : ∃ n, n = F.bs.length := ⟨_, rfl⟩
  obtain ⟨m, hm⟩ : ∃ m, m = b.es.length := ⟨_, rfl⟩
  have HM := hidE hm
  rw [← hm] at EA
  rw [← hnn] at HP PC hc q1
  obtain ⟨P, hPP⟩ : ∃ P, P = placeN F.S s n 0 := ⟨_, rfl⟩
  rw [← hPP] at HP PC q1
  have pb : (P : Int) < (n : Int) := by omega
  have p0 : (0 : Int) ≤ (P : Int) := by omega
  have BX : Hid (Below w.heap.size w ((w.alloc (.cells #[.int .u64 F.S, .int .i64 F.room, .int .i64 F.votes, .slice (some ⟨bb, o, none⟩) n cap, .int .u64 F.LS, .int .i64 F.LM, rv] 28)).alloc (.cells #[.string ⟨#[]⟩, .int .i64 0, .bool false] 76))) := (bel_alloc _ _).alloc (by simp) _
  have KX : Hid (Blk ((w.alloc (.cells #[.int .u64 F.S, .int .i64 F.room, .int .i64 F.votes, .slice (some ⟨bb, o, none⟩) n cap, .int .u64 F.LS, .int .i64 F.LM, rv] 28)).alloc (.cells #[.string ⟨#[]⟩, .int .i64 0, .bool false] 76)) w.heap.size 28 #[.int .u64 F.S, .int .i64 F.room, .int .i64 F.votes, .slice (some ⟨bb, o, none⟩) n cap, .int .u64 F.LS, .int .i64 F.LM, rv]) := (Blk.new _ _ _).alloc _
  have KR : Hid (Blk ((w.alloc (.cells #[.int .u64 F.S, .int .i64 F.room, .int .i64 F.votes, .slice (some ⟨bb, o, none⟩) n cap, .int .u64 F.LS, .int .i64 F.LM, rv] 28)).alloc (.cells #[.string ⟨#[]⟩, .int .i64 0, .bool false] 76)) (w.heap.size + 1) 76 #[.string ⟨#[]⟩, .int .i64 0, .bool false]) := by
    have e := Blk.new (w.alloc (.cells #[.int .u64 F.S, .int .i64 F.room, .int .i64 F.votes, .slice (some ⟨bb, o, none⟩) n cap, .int .u64 F.LS, .int .i64 F.LM, rv] 28)) 76 #[.string ⟨#[]⟩, .int .i64 0, .bool false]
    simp only [World.size_alloc] at e
    exact e
  rw [← hm] at q1 hc2 h5
  have Q1 := hidE q1
  have H5 := hidE h5
  have H6 := hidE h6
  unfold elv at *
  rw [← hnn] at *
  clear hc hr h3 h4 hb hnn hPP q1 h5 h6 hm hc2 hs hn hn1 hl
  go_enter Try.func31, Try.ntmps31
  go_wp2_with fail
  generalize ((w.alloc (.cells #[.int .u64 F.S, .int .i64 F.room, .int .i64 F.votes, .slice (some ⟨bb, o, none⟩) n cap, .int .u64 F.LS, .int .i64 F.LM, rv] 28)).alloc (.cells #[.string ⟨#[]⟩, .int .i64 0, .bool false] 76)) = X at BX KX KR ⊢
  rcases hf with ⟨ga, rfl, rfl, rfl⟩ | ⟨i, ga, ge⟩
  · rw [atI_none ga] at EA
    clear ga
    refine letterQ ?_
    intro QQ hQQ
    have Z0 : Hid (Below X.heap.size X X.drew) := (Below.refl _ _).drew
    refine wp_region_noPanic ?_
    refine wp_region_held_drew (S := fun w2 => Below X.heap.size X w2) (by kernel_rfl) Z0.out (fun hHeld => ?_)
    clear hHeld
    generalize X.drew = q0 at Z0 ⊢
    refine wpAnyH_take (i := 0) (v := ?_) rfl (by kernel_rfl) (by kernel_rfl) (by kernel_rfl) (fun _ _ _ h => h) (Or.inl ⟨by rfl, ?_⟩) Z0.out ?_
    rotate_left
    · intro wq hSw; go_simp; first | done | with_reducible rfl
    simp only [List.getElem_toArray, List.getElem_cons_zero, Act.put, List.setIfInBounds_toArray, List.set_cons_zero, List.set_cons_succ]
    refine wpAnyH_take (i := 1) (v := ?_) rfl (by kernel_rfl) (by kernel_rfl) (by kernel_rfl) (fun _ _ _ h => h) (Or.inl ⟨by rfl, ?_⟩) Z0.out ?_
    rotate_left
    · intro wq hSw; have cl0 := (KX.out.since hSw).cell 3; go_simp; first | done | with_reducible rfl
    simp only [List.getElem_toArray, List.getElem_cons_zero, List.getElem_cons_succ, Act.put, List.setIfInBounds_toArray, List.set_cons_zero, List.set_cons_succ]
    refine wpAnyH_take (i := 2) (v := ?_) rfl (by kernel_rfl) (by kernel_rfl) (by kernel_rfl) (fun _ _ _ h => h) (Or.inl ⟨by rfl, ?_⟩) Z0.out ?_
    rotate_left
    · intro wq hSw; have cl0 := (KX.out.since hSw).cell 0; have cl1 := (KX.out.since hSw).cell 1; have cl2 := (KX.out.since hSw).cell 2; have cl3 := (KX.out.since hSw).cell 3; have cl4 := (KX.out.since hSw).cell 4; have cl5 := (KX.out.since hSw).cell 5; have cl6 := (KX.out.since hSw).cell 6; go_simp; first | done | with_reducible rfl
    simp only [List.getElem_toArray, List.getElem_cons_zero, List.getElem_cons_succ, Act.put, List.setIfInBounds_toArray, List.set_cons_zero, List.set_cons_succ]
    refine wpAnyH_take (i := 3) (v := ?_) rfl (by kernel_rfl) (by kernel_rfl) (by kernel_rfl) (fun _ _ _ h => h) (Or.inl ⟨by rfl, ?_⟩) Z0.out ?_
    rotate_left
    · intro wq hSw; go_simp; first | done | with_reducible rfl
    simp only [List.getElem_toArray, List.getElem_cons_zero, List.getElem_cons_succ, Act.put, List.setIfInBounds_toArray, List.set_cons_zero, List.set_cons_succ]
    refine wpAnyH_ready (rs := [4]) (by kernel_rfl) (by simp) ?_
    refine AllReadyH.cons rfl (fun K0 hK0 => ?_) ?_
    rotate_left
    · exact AllReadyH.nil
    refine step_func 53 #[.agg #[.int .u64 F.S, .int .i64 F.room, .int .i64 F.votes, .slice (some ⟨bb, o, none⟩) n cap, .int .u64 F.LS, .int .i64 F.LM, rv], .string s] (by rfl) rfl (by simp [Act.eval]) (fun _ _ => by kernel_rfl) ?_
    refine (PC.out _ (bel_trans BX.out Z0.out)).mono ?_
    rintro e v1 ⟨rfl, b1⟩
    have Z1 : Hid (Below X.heap.size X v1) := bel_trans Z0.out b1
    clear b1
    refine ⟨_, rfl, ?_⟩
    refine hK0.out _ _ (by exact Z1.out) (fun hHeld => ?_)
    clear hK0 K0 hHeld
    simp only [Act.put, List.setIfInBounds_toArray]
    refine wpAnyH_take (i := 5) (v := ?_) rfl (by kernel_rfl) (by kernel_rfl) (by kernel_rfl) (fun _ _ _ h => h) (Or.inl ⟨by rfl, ?_⟩) Z1.out ?_
    rotate_left
    · intro wq hSw; go_simp; first | done | with_reducible rfl
    simp only [List.getElem_toArray, List.getElem_cons_zero, List.getElem_cons_succ, Act.put, List.setIfInBounds_toArray, List.set_cons_zero, List.set_cons_succ]
    refine wpAnyH_take (i := 6) (v := ?_) rfl (by kernel_rfl) (by kernel_rfl) (by kernel_rfl) (fun _ _ _ h => h) (Or.inl ⟨by rfl, ?_⟩) Z1.out ?_
    rotate_left
    · intro wq hSw; go_simp; first | done | with_reducible rfl
    simp only [List.getElem_toArray, List.getElem_cons_zero, List.getElem_cons_succ, Act.put, List.setIfInBounds_toArray, List.set_cons_zero, List.set_cons_succ]
    refine wpAnyH_take (i := 7) (v := ?_) rfl (by kernel_rfl) (by kernel_rfl) (by kernel_rfl) (fun _ _ _ h => h) (Or.inl ⟨by rfl, ?_⟩) Z1.out ?_
    rotate_left
    · intro wq hSw; have cl0 := keep_of_below (bel_trans BX.out hSw) _ _ Q1.out; go_simp; first | done | with_reducible rfl
    simp only [List.getElem_toArray, List.getElem_cons_zero, List.getElem_cons_succ, Act.put, List.setIfInBounds_toArray, List.set_cons_zero, List.set_cons_succ]
    refine wpAnyH_take (i := 8) (v := ?_) rfl (by kernel_rfl) (by kernel_rfl) (by kernel_rfl) (fun _ _ _ h => h) (Or.inl ⟨by rfl, ?_⟩) Z1.out ?_
    rotate_left
    · intro wq hSw; go_simp; first | done | with_reducible rfl
    simp only [List.getElem_toArray, List.getElem_cons_zero, List.getElem_cons_succ, Act.put, List.setIfInBounds_toArray, List.set_cons_zero, List.set_cons_succ]
    refine wpAnyH_done (by kernel_rfl) ?_ _
    refine NoPanic.normal ?_
    refine hQQ.out _ _ ?_
    clear hQQ
    go_wp2_with fail
    refine (EA.out _ (bel_trans BX.out Z1.out)).mono ?_
    rintro e u2 ⟨rfl, b2⟩
    have B2 : Hid (Below w.heap.size w u2) := bel_trans (bel_trans BX.out Z1.out) b2
    have K2 : Hid (Blk u2 (w.heap.size + 1) 76 #[.string ⟨#[]⟩, .int .i64 0, .bool false]) := (KR.out.since Z1.out).since b2
    clear b2 BX KX KR EA PC Z1 Z0
    have r0 : u2.cell? ⟨w.heap.size + 1, 0, none⟩ = some (.string ⟨#[]⟩) := K2.out.cell 0
    have r1 : u2.cell? ⟨w.heap.size + 1, 1, none⟩ = some (.int .i64 0) := K2.out.cell 1
    have r2 : u2.cell? ⟨w.heap.size + 1, 2, none⟩ = some (.bool false) := K2.out.cell 2
    have z0 := K2.out.frozen 0
    have z1 := K2.out.frozen 1
    have z2 := K2.out.frozen 2
    go_wp2_with fail
    refine bodyPost_ret (v := .agg #[.string ⟨#[]⟩, .int .i64 0, .bool false]) ?_ rfl ?_
    rotate_left
    · exact ⟨rfl, eput3_below B2.out (by omega) _ _ _⟩
    have c3 := eput3_blk (t := 76) K2.out (.string ⟨#[]⟩) (.int .i64 0) (.bool false)
    have c30 := c3.cell 0
    have c31 := c3.cell 1
    have c32 := c3.cell 2
    change (results _ _).run _ (eput3 u2 (w.heap.size + 1) (.string ⟨#[]⟩) (.int .i64 0) (.bool false)) = .ok _ (eput3 u2 (w.heap.size + 1) (.string ⟨#[]⟩) (.int .i64 0) (.bool false))
    generalize eput3 u2 (w.heap.size + 1) (.string ⟨#[]⟩) (.int .i64 0) (.bool false) = W5 at c30 c31 c32
    simp [results, Try.results31, go_sem, c30, c31, c32]
  · rw [atI_some ga] at EA
    have il : i < m := by rw [HM.out]; exact (List.getElem?_eq_some_iff.1 ge).1
    have bi : (i : Int) < (m : Int) := by omega
    have bi0 : (0 : Int) ≤ (i : Int) := by omega
    obtain ⟨p1, p2, p3⟩ := H6.out i _ ge
    simp only at p1 p2 p3
    have P1 := hidE p1
    have P2 := hidE p2
    have P3 := hidE p3
    obtain rfl := H5.out (by omega)
    clear ga ge p1 p2 p3 H5 H6
    refine letterQ ?_
    intro QQ hQQ
    have Z0 : Hid (Below X.heap.size X X.drew) := (Below.refl _ _).drew
    refine wp_region_noPanic ?_
    refine wp_region_held_drew (S := fun w2 => Below X.heap.size X w2) (by kernel_rfl) Z0.out (fun hHeld => ?_)
    clear hHeld
    generalize X.drew = q0 at Z0 ⊢
    refine wpAnyH_take (i := 0) (v := ?_) rfl (by kernel_rfl) (by kernel_rfl) (by kernel_rfl) (fun _ _ _ h => h) (Or.inl ⟨by rfl, ?_⟩) Z0.out ?_
    rotate_left
    · intro wq hSw; go_simp; first | done | with_reducible rfl
    simp only [List.getElem_toArray, List.getElem_cons_zero, Act.put, List.setIfInBounds_toArray, List.set_cons_zero, List.set_cons_succ]
    refine wpAnyH_take (i := 1) (v := ?_) rfl (by kernel_rfl) (by kernel_rfl) (by kernel_rfl) (fun _ _ _ h => h) (Or.inl ⟨by rfl, ?_⟩) Z0.out ?_
    rotate_left
    · intro wq hSw; have cl0 := (KX.out.since hSw).cell 3; go_simp; first | done | with_reducible rfl
    simp only [List.getElem_toArray, List.getElem_cons_zero, List.getElem_cons_succ, Act.put, List.setIfInBounds_toArray, List.set_cons_zero, List.set_cons_succ]
    refine wpAnyH_take (i := 2) (v := ?_) rfl (by kernel_rfl) (by kernel_rfl) (by kernel_rfl) (fun _ _ _ h => h) (Or.inl ⟨by rfl, ?_⟩) Z0.out ?_
    rotate_left
    · intro wq hSw; have cl0 := (KX.out.since hSw).cell 0; have cl1 := (KX.out.since hSw).cell 1; have cl2 := (KX.out.since hSw).cell 2; have cl3 := (KX.out.since hSw).cell 3; have cl4 := (KX.out.since hSw).cell 4; have cl5 := (KX.out.since hSw).cell 5; have cl6 := (KX.out.since hSw).cell 6; go_simp; first | done | with_reducible rfl
    simp only [List.getElem_toArray, List.getElem_cons_zero, List.getElem_cons_succ, Act.put, List.setIfInBounds_toArray, List.set_cons_zero, List.set_cons_succ]
    refine wpAnyH_take (i := 3) (v := ?_) rfl (by kernel_rfl) (by kernel_rfl) (by kernel_rfl) (fun _ _ _ h => h) (Or.inl ⟨by rfl, ?_⟩) Z0.out ?_
    rotate_left
    · intro wq hSw; go_simp; first | done | with_reducible rfl
    simp only [List.getElem_toArray, List.getElem_cons_zero, List.getElem_cons_succ, Act.put, List.setIfInBounds_toArray, List.set_cons_zero, List.set_cons_succ]
    refine wpAnyH_ready (rs := [4]) (by kernel_rfl) (by simp) ?_
    refine AllReadyH.cons rfl (fun K0 hK0 => ?_) ?_
    rotate_left
    · exact AllReadyH.nil
    refine step_func 53 #[.agg #[.int .u64 F.S, .int .i64 F.room, .int .i64 F.votes, .slice (some ⟨bb, o, none⟩) n cap, .int .u64 F.LS, .int .i64 F.LM, rv], .string s] (by rfl) rfl (by simp [Act.eval]) (fun _ _ => by kernel_rfl) ?_
    refine (PC.out _ (bel_trans BX.out Z0.out)).mono ?_
    rintro e v1 ⟨rfl, b1⟩
    have Z1 : Hid (Below X.heap.size X v1) := bel_trans Z0.out b1
    clear b1
    refine ⟨_, rfl, ?_⟩
    refine hK0.out _ _ (by exact Z1.out) (fun hHeld => ?_)
    clear hK0 K0 hHeld
    simp only [Act.put, List.setIfInBounds_toArray]
    refine wpAnyH_take (i := 5) (v := ?_) rfl (by kernel_rfl) (by kernel_rfl) (by kernel_rfl) (fun _ _ _ h => h) (Or.inl ⟨by rfl, ?_⟩) Z1.out ?_
    rotate_left
    · intro wq hSw; go_simp; first | done | with_reducible rfl
    simp only [List.getElem_toArray, List.getElem_cons_zero, List.getElem_cons_succ, Act.put, List.setIfInBounds_toArray, List.set_cons_zero, List.set_cons_succ]
    refine wpAnyH_take (i := 6) (v := ?_) rfl (by kernel_rfl) (by kernel_rfl) (by kernel_rfl) (fun _ _ _ h => h) (Or.inl ⟨by rfl, ?_⟩) Z1.out ?_
    rotate_left
    · intro wq hSw; go_simp; first | done | with_reducible rfl
    simp only [List.getElem_toArray, List.getElem_cons_zero, List.getElem_cons_succ, Act.put, List.setIfInBounds_toArray, List.set_cons_zero, List.set_cons_succ]
    refine wpAnyH_take (i := 7) (v := ?_) rfl (by kernel_rfl) (by kernel_rfl) (by kernel_rfl) (fun _ _ _ h => h) (Or.inl ⟨by rfl, ?_⟩) Z1.out ?_
    rotate_left
    · intro wq hSw; have cl0 := keep_of_below (bel_trans BX.out hSw) _ _ Q1.out; go_simp; first | done | with_reducible rfl
    simp only [List.getElem_toArray, List.getElem_cons_zero, List.getElem_cons_succ, Act.put, List.setIfInBounds_toArray, List.set_cons_zero, List.set_cons_succ]
    refine wpAnyH_take (i := 8) (v := ?_) rfl (by kernel_rfl) (by kernel_rfl) (by kernel_rfl) (fun _ _ _ h => h) (Or.inl ⟨by rfl, ?_⟩) Z1.out ?_
    rotate_left
    · intro wq hSw; go_simp; first | done | with_reducible rfl
    simp only [List.getElem_toArray, List.getElem_cons_zero, List.getElem_cons_succ, Act.put, List.setIfInBounds_toArray, List.set_cons_zero, List.set_cons_succ]
    refine wpAnyH_done (by kernel_rfl) ?_ _
    refine NoPanic.normal ?_
    refine hQQ.out _ _ ?_
    clear hQQ
    go_wp2_with fail
    refine (EA.out _ (bel_trans BX.out Z1.out)).mono ?_
    rintro e u2 ⟨rfl, bq2⟩
    have B2 : Hid (Below w.heap.size w u2) := bel_trans (bel_trans BX.out Z1.out) bq2
    have K2 : Hid (Blk u2 (w.heap.size + 1) 76 #[.string ⟨#[]⟩, .int .i64 0, .bool false]) := (KR.out.since Z1.out).since bq2
    have p1 := keep_of_below B2.out _ _ P1.out
    have p2 := keep_of_below B2.out _ _ P2.out
    have p3 := keep_of_below B2.out _ _ P3.out
    clear bq2 BX KX KR EA PC Z1 Z0
    have r0 : u2.cell? ⟨w.heap.size + 1, 0, none⟩ = some (.string ⟨#[]⟩) := K2.out.cell 0
    have r1 : u2.cell? ⟨w.heap.size + 1, 1, none⟩ = some (.int .i64 0) := K2.out.cell 1
    have r2 : u2.cell? ⟨w.heap.size + 1, 2, none⟩ = some (.bool false) := K2.out.cell 2
    have z0 := K2.out.frozen 0
    have z1 := K2.out.frozen 1
    have z2 := K2.out.frozen 2
    go_wp2_with fail
    refine bodyPost_ret (v := .agg #[.string k, .int .i64 v, .bool f]) ?_ rfl ?_
    rotate_left
    · exact ⟨rfl, eput3_below B2.out (by omega) _ _ _⟩
    have c3 := eput3_blk (t := 76) K2.out (.string k) (.int .i64 v) (.bool f)
    have c30 := c3.cell 0
    have c31 := c3.cell 1
    have c32 := c3.cell 2
    change (results _ _).run _ (eput3 u2 (w.heap.size + 1) (.string k) (.int .i64 v) (.bool f)) = .ok _ (eput3 u2 (w.heap.size + 1) (.string k) (.int .i64 v) (.bool f))
    generalize eput3 u2 (w.heap.size + 1) (.string k) (.int .i64 v) (.bool f) = W5 at c30 c31 c32
    simp [results, Try.results31, go_sem, c30, c31, c32]
set_option maxHeartbeats 2000000 in
theorem ecloneE (w : World) (A : Option Addr) (n cap b o : Nat) (us : List Value) (hu : us.length = n * 3) (h2 : n ≤ cap) (h3 : 0 < n → A = some ⟨b, o, none⟩) (h4 : ∀ (j : Nat) (u : Value), us[j]? = some u → w.cell? ⟨b, o + j, none⟩ = some u) (h1 : ∀ u ∈ us, u.oneCell' = true) (hn : n ≤ 100000) :
    Calls Try.prog 52 #[.slice A n cap] w fun e w' => ∃ v', e = .returned v' ∧ w'.ownsRow w.heap.size 76 3 v' n us ∧ Below w.heap.size w w' := by
  obtain ⟨it, hi, hz0, hz1, hz2⟩ := infoEE
  have HT : Hid (Try.prog.info? 76 = some it ∧ it.zero = some (.agg #[.string ⟨#[]⟩, .int .i64 0, .bool false]) ∧ it.size = 3 ∧ it.bytes = 32) := ⟨hi, hz0, hz1, hz2⟩
  clear hi hz0 hz1 hz2
  have q : ∀ (w : World) (a : Option Addr) (n c n' c' : Nat), (binOp .eql 54 (.slice a n c) (.slice none n' c')).run Try.prog w = .ok (.bool a.isNone) w := fun w a n c n' c' => Lib.run_eql_slice_nil w _ _ a n c n' c' Try.underlying54
  by_cases h0 : n = 0
  · subst h0
    obtain rfl : us = [] := List.length_eq_zero_iff.1 (by omega)
    clear h3 h4 hu h1
    cases A with
    | none =>
      go_enter Try.func52, Try.ntmps52
      go_wp2
      go_ret
      exact ⟨_, rfl, World.ownsRow_nil w _ _ _, Below.refl _ _⟩
    | some a =>
      go_enter Try.func52, Try.ntmps52
      go_wp2_with (at_builtin; refine wpList_append_own _ rfl _ _ 54 rfl w.heap.size 76 it (.agg #[.string ⟨#[]⟩, .int .i64 0, .bool false]) 3 32 Try.underlying54 HT.out.1 HT.out.2.1 HT.out.2.2.1 HT.out.2.2.2 rfl (by decide) _ _ _ rfl (World.ownsRow_made w #[] 0 (Nat.le_refl _) (Nat.zero_le _) rfl) a 0 cap [] rfl rfl (by intro j u hj; simp at hj) (by intro u hu; cases hu) (by unfold maxLen; omega) (by omega) (by simp) ?_)
      intro v' w1 hown hgrow hnil
      go_wp2
      go_ret
      exact ⟨_, rfl, by simpa using hown, ((Below.refl _ w).alloc (Nat.le_refl _) _).grown hgrow (by simp) (by intro k hk; simp [Value.ownBlock] at hk; omega)⟩
  · obtain rfl := h3 (by omega)
    have A4 := hidE h4
    have HU := hidE hu
    have H1 := hidE h1
    clear h3 h4 hu h1
    go_enter Try.func52, Try.ntmps52
    go_wp2_with (at_builtin; refine wpList_append_own _ rfl _ _ 54 rfl w.heap.size 76 it (.agg #[.string ⟨#[]⟩, .int .i64 0, .bool false]) 3 32 Try.underlying54 HT.out.1 HT.out.2.1 HT.out.2.2.1 HT.out.2.2.2 rfl (by decide) _ _ _ rfl (World.ownsRow_made w #[] 0 (Nat.le_refl _) (Nat.zero_le _) rfl) ⟨b, o, none⟩ n cap us rfl ?qc1 ?qc2 ?qc3 ?qc4 ?qc5 ?qc6 ?_)
    case qc1 => exact HU.out
    case qc2 =>
      intro j u hj
      have k1 := A4.out j u hj
      rw [Addr.add_lit, ← k1]
      exact World.cell?_alloc_lt w _ _ (World.block_lt_of_cell? _ _ k1)
    case qc3 => exact H1.out
    case qc4 => unfold maxLen; omega
    case qc5 => omega
    case qc6 => simp
    intro v' w1 hown hgrow hnil
    go_wp2
    go_ret
    exact ⟨_, rfl, by simpa using hown, ((Below.refl _ w).alloc (Nat.le_refl _) _).grown hgrow (by simp) (by intro k hk; simp [Value.ownBlock] at hk; omega)⟩
set_option maxHeartbeats 2000000 in
theorem ecloneB (w : World) (A : Option Addr) (n cap b o : Nat) (us : List Value) (hu : us.length = n * 2) (h2 : n ≤ cap) (h3 : 0 < n → A = some ⟨b, o, none⟩) (h4 : ∀ (j : Nat) (u : Value), us[j]? = some u → w.cell? ⟨b, o + j, none⟩ = some u) (h1 : ∀ u ∈ us, u.oneCell' = true) (hn : n ≤ 100000) :
    Calls Try.prog 51 #[.slice A n cap] w fun e w' => ∃ v', e = .returned v' ∧ w'.ownsRow w.heap.size 56 2 v' n us ∧ Below w.heap.size w w' := by
  obtain ⟨it, hi, hz0, hz1, hz2⟩ := infoEB
  have HT : Hid (Try.prog.info? 56 = some it ∧ it.zero = some (.agg #[.slice none 0 0, .int .i64 0]) ∧ it.size = 2 ∧ it.bytes = 32) := ⟨hi, hz0, hz1, hz2⟩
  clear hi hz0 hz1 hz2
  have q : ∀ (w : World) (a : Option Addr) (n c n' c' : Nat), (binOp .eql 23 (.slice a n c) (.slice none n' c')).run Try.prog w = .ok (.bool a.isNone) w := fun w a n c n' c' => Lib.run_eql_slice_nil w _ _ a n c n' c' Try.underlying23
  by_cases h0 : n = 0
  · subst h0
    obtain rfl : us = [] := List.length_eq_zero_iff.1 (by omega)
    clear h3 h4 hu h1
    cases A with
    | none =>
      go_enter Try.func51, Try.ntmps51
      go_wp2
      go_ret
      exact ⟨_, rfl, World.ownsRow_nil w _ _ _, Below.refl _ _⟩
    | some a =>
      go_enter Try.func51, Try.ntmps51
      go_wp2_with (at_builtin; refine wpList_append_own _ rfl _ _ 23 rfl w.heap.size 56 it (.agg #[.slice none 0 0, .int .i64 0]) 2 32 Try.underlying23 HT.out.1 HT.out.2.1 HT.out.2.2.1 HT.out.2.2.2 rfl (by decide) _ _ _ rfl (World.ownsRow_made w #[] 0 (Nat.le_refl _) (Nat.zero_le _) rfl) a 0 cap [] rfl rfl (by intro j u hj; simp at hj) (by intro u hu; cases hu) (by unfold maxLen; omega) (by omega) (by simp) ?_)
      intro v' w1 hown hgrow hnil
      go_wp2
      go_ret
      exact ⟨_, rfl, by simpa using hown, ((Below.refl _ w).alloc (Nat.le_refl _) _).grown hgrow (by simp) (by intro k hk; simp [Value.ownBlock] at hk; omega)⟩
  · obtain rfl := h3 (by omega)
    have A4 := hidE h4
    have HU := hidE hu
    have H1 := hidE h1
    clear h3 h4 hu h1
    go_enter Try.func51, Try.ntmps51
    go_wp2_with (at_builtin; refine wpList_append_own _ rfl _ _ 23 rfl w.heap.size 56 it (.agg #[.slice none 0 0, .int .i64 0]) 2 32 Try.underlying23 HT.out.1 HT.out.2.1 HT.out.2.2.1 HT.out.2.2.2 rfl (by decide) _ _ _ rfl (World.ownsRow_made w #[] 0 (Nat.le_refl _) (Nat.zero_le _) rfl) ⟨b, o, none⟩ n cap us rfl ?qc1 ?qc2 ?qc3 ?qc4 ?qc5 ?qc6 ?_)
    case qc1 => exact HU.out
    case qc2 =>
      intro j u hj
      have k1 := A4.out j u hj
      rw [Addr.add_lit, ← k1]
      exact World.cell?_alloc_lt w _ _ (World.block_lt_of_cell? _ _ k1)
    case qc3 => exact H1.out
    case qc4 => unfold maxLen; omega
    case qc5 => omega
    case qc6 => simp
    intro v' w1 hown hgrow hnil
    go_wp2
    go_ret
    exact ⟨_, rfl, by simpa using hown, ((Below.refl _ w).alloc (Nat.le_refl _) _).grown hgrow (by simp) (by intro k hk; simp [Value.ownBlock] at hk; omega)⟩
/-! ### The first one of the fewest votes -/
set_option maxHeartbeats 3200000 in
theorem eweakest_any (w : World) (l : List Ent) (b o n cap : Nat) (hn : n = l.length) (n0 : 0 < n) (hl : n ≤ 100000) (hc : n ≤ cap) (h4 : ∀ (i : Nat) (e : Ent), l[i]? = some e → w.cell? ⟨b, o + i * 3, none⟩ = some (.string e.k) ∧ w.cell? ⟨b, o + i * 3 + 1, none⟩ = some (.int .i64 e.v) ∧ w.cell? ⟨b, o + i * 3 + 2, none⟩ = some (.bool e.f)) :
    Calls Try.prog 79 #[.slice (some ⟨b, o, none⟩) n cap] w fun e w' => e = .returned (.int .i64 (lowAt l : Int)) ∧ Below w.heap.size w w' := by
  have H4 := hidE h4
  have HN := hidE hn
  clear h4 hn
  go_enter Try.func79, Try.ntmps79
  go_wp2_with fail
  go_loopg [3, 4, 5, 8] n (fun gk s3 s4 s5 i wr => ∃ k q : Nat, (gk = n - k ∧ k ≤ n ∧ q = lowE l k ∧ Below w.heap.size w wr) ∧ s3 = .int .i64 (q : Int) ∧ i = .int .i64 (k : Int))
  case atStart => exact ⟨0, 0, ⟨rfl, by omega, rfl, Below.refl _ _⟩, rfl, rfl⟩
  case round =>
    obtain ⟨k, q, ⟨hgk, hk, hq, hB⟩, rfl, rfl⟩ := hrel
    have HB := hidE hB
    have HK := hidE hgk
    have HQ := hidE hq
    have ql : q < n := by rw [hq, HN.out]; exact lowE_lt (by rw [← HN.out]; exact n0) k (by rw [← HN.out]; exact hk)
    clear hB hgk hq
    by_cases hz : k < n
    · obtain ⟨y, hy⟩ : ∃ y, l[k]? = some y := ⟨_, List.getElem?_eq_getElem (by rw [← HN.out]; exact hz)⟩
      obtain ⟨z, hz2⟩ : ∃ z, l[q]? = some z := ⟨_, List.getElem?_eq_getElem (by rw [← HN.out]; exact ql)⟩
      obtain ⟨c1, c2, c3⟩ := H4.out k y hy
      have c1 := keep_of_below HB.out _ _ c1
      have c2 := keep_of_below HB.out _ _ c2
      have c3 := keep_of_below HB.out _ _ c3
      have D2 := hidE (keep_of_below HB.out _ _ (H4.out q z hz2).2.1)
      have NX : Hid (lowE l (k + 1) = if y.v < z.v then k else q) := by
        show lowE l (k + 1) = _
        rw [lowE, ← HQ.out, hy, hz2]
      clear hy hz2
      obtain ⟨t, d, f⟩ := y
      obtain ⟨t2, d2, f2⟩ := z
      simp only at c1 c2 c3 D2 NX
      have bk : (k : Int) < (n : Int) := by omega
      have bk0 : (0 : Int) ≤ (k : Int) := by omega
      have bq : (q : Int) < (n : Int) := by omega
      have bq0 : (0 : Int) ≤ (q : Int) := by omega
      have BA : Hid (Below wr.heap.size wr (wr.alloc (.cells #[.string t, .int .i64 d, .bool f] 76))) := bel_alloc _ _
      have KA : Hid (Blk (wr.alloc (.cells #[.string t, .int .i64 d, .bool f] 76)) wr.heap.size 76 #[.string t, .int .i64 d, .bool f]) := Blk.new _ _ _
      go_upto_region 5 with fail
      generalize wr.alloc (.cells #[.string t, .int .i64 d, .bool f] 76) = X at BA KA ⊢
      generalize hg : wr.heap.size = g at BA KA ⊢
      have x1 : X.cell? ⟨g, 1, none⟩ = some (.int .i64 d) := KA.out.cell 1
      have BX : Hid (Below w.heap.size w X) := by
        have b := BA.out
        rw [← hg] at b
        exact bel_trans HB.out b
      have d2x : X.cell? ⟨b, o + q * 3 + 1, none⟩ = some (.int .i64 d2) := by
        have b := BA.out
        rw [← hg] at b
        exact keep_of_below b _ _ D2.out
      clear hg c1 c2 c3 BA
      by_cases lt : d < d2
      · rw [if_pos lt] at NX
        go_quiet (fail)
        go_wp2_with fail
        go_roundg (n - (k + 1))
        case measure => have := HK.out; omega
        case rel => exact ⟨k + 1, k, ⟨rfl, by omega, NX.out.symm, below_drewN BX.out _⟩, rfl, by go_num⟩
      · rw [if_neg lt] at NX
        go_quiet (fail)
        go_wp2_with fail
        go_roundg (n - (k + 1))
        case measure => have := HK.out; omega
        case rel => exact ⟨k + 1, q, ⟨rfl, by omega, NX.out.symm, below_drewN BX.out _⟩, rfl, by go_num⟩
    · have bk : ¬ (k : Int) < (n : Int) := by omega
      have e : k = n := by omega
      have HE : Hid (q = lowAt l) := by
        show q = lowAt l
        rw [lowAt, ← HN.out, ← e]
        exact HQ.out
      clear e
      go_wp2_with fail
      go_ret
      exact ⟨by rw [← HE.out]; rfl, HB.out⟩
end Go.Proofs.Ytihealembikkiaa
