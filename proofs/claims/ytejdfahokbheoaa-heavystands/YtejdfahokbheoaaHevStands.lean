
/-
  HeavyStands, over the heap's contracts: items stand by falling counts, of one count by rising keys.
-/
import Derived.Test.YtejdfahokbheoaaHevCtr
import Derived.Test.YtejdfahokbheoaaHevRPut
import Derived.BigRegion
namespace Go.Proofs.Ytejdfahokbheoaa
open Go.RowKit Hv Go.Deep
set_option linter.unusedVariables false
set_option linter.unusedSimpArgs false

set_option maxHeartbeats 6400000 in
set_option maxRecDepth 20000 in
theorem stands_walk {HP : HPT} (C : Ctr HP) (room : Int) (lv : Value) (l : List Itm) (w : World) (hr : i64 room) (h : ItemsL w lv l) : Calls Try.prog 7 #[.int .i64 room, lv] w fun e w' => e = .returned (.bool true) ∧ Below w.heap.size w w' := by
  have HI0 : Hid (ItemsL w lv l) := h
  obtain ⟨hI, hln, hlk⟩ := h
  have FW : Hid (∀ w1, Below w.heap.size w w1 → Calls Try.prog 8 #[lv] w1 (TellsW w1 (FewL l))) := fun w1 b1 => hfew_any w1 lv l (hI.keep (keep_of_below b1)) hln fun i x e => (hlk i x e).1
  by_cases hroom : 1 ≤ room ∧ room ≤ 64
  rotate_left
  · go_enter Try.func7, Try.ntmps7
    go_wp2_with fail
    refine (C.of_bad w room lv l HI0.out hr (by omega)).mono ?_
    rintro e u1 ⟨rfl, b1⟩
    have BE1 := hid b1
    clear b1
    by_cases lo : room < 1
    · go_wp2_with fail
      refine (hawake_any C u1).mono ?_
      rintro e u2 ⟨rfl, b2⟩
      go_wp2_with fail
      go_ret
      exact ⟨rfl, bel_trans BE1.out b2⟩
    · have hi : room > 64 := by omega
      go_wp2_with fail
      refine (hawake_any C u1).mono ?_
      rintro e u2 ⟨rfl, b2⟩
      go_wp2_with fail
      go_ret
      exact ⟨rfl, bel_trans BE1.out b2⟩
  obtain ⟨R, rfl⟩ : ∃ R : Nat, room = (R : Int) := ⟨room.toNat, by omega⟩
  have r1 : 1 ≤ R := by omega
  have r2 : R ≤ 64 := by omega
  obtain ⟨A, cap, b, o, rfl, hc, h3, h4⟩ := hI
  obtain ⟨n, hn⟩ : ∃ n, n = l.length := ⟨_, rfl⟩
  have HN : Hid (n = l.length) := hn
  have OF := hid (C.of_ok w R _ l HI0.out r1 r2)
  rw [← hn] at hc hln FW OF ⊢
  clear h3 h4 hn hlk hroom hr HI0
  go_enter Try.func7, Try.ntmps7
  go_wp2_with fail
  refine OF.out.mono ?_
  rintro e u1 ⟨v, D1, rfl, H1, b1⟩
  have HP1 := hid H1
  have BE1 := hid b1
  obtain ⟨p, rfl⟩ := C.ptr H1
  clear H1 b1 OF
  go_wp2_with fail
  refine (FW.out u1 BE1.out).mono ?_
  rintro e u2 ⟨B, rfl, hB, rfl⟩
  cases B with
  | false =>
    go_wp2_with fail
    refine (hawake_any C u2).mono ?_
    rintro e u3 ⟨rfl, b3⟩
    go_wp2_with fail
    go_ret
    exact ⟨rfl, bel_trans BE1.out b3⟩
  | true =>
  have n150 : n ≤ 150 := by rw [HN.out]; exact (hB.1 rfl).1
  clear hB FW
  obtain ⟨m, hm⟩ : ∃ m, m = offersL R (itq l) n := ⟨_, rfl⟩
  have HM : Hid (m = offersL R (itq l) n) := hm
  have SM : Hid (StandsL m) := by show StandsL m; rw [hm]; exact offers_stands _ _ _
  have mR : m.length ≤ R := by rw [hm]; exact offers_length r1 _ _
  have NM : Hid (0 < n → 0 < m.length) := by show _ → _; rw [hm]; exact offers_pos r1 _ n
  rw [← hm] at HP1
  clear hm
  go_wp2_with fail
  refine (C.list u2 _ _ R _ D1 HP1.out).mono ?_
  rintro e u3 ⟨mv, rfl, L3, b3⟩
  have BE3 := hid (bel_trans BE1.out b3)
  have HP3 := hid (C.since HP1.out b3)
  obtain ⟨A', cap', b', o', rfl, hc', y3, y4⟩ := L3.its
  have Y3 : Hid (0 < m.length → A' = some ⟨b', o', none⟩) := y3
  have Y4 : Hid (∀ i x, m[i]? = some x → u3.cell? ⟨b', o' + i * 2, none⟩ = some (.string x.k) ∧ u3.cell? ⟨b', o' + i * 2 + 1, none⟩ = some (.int .i64 x.c)) := y4
  obtain ⟨M, hM⟩ : ∃ M, M = m.length := ⟨_, rfl⟩
  have HL : Hid (M = m.length) := hM
  rw [← hM] at hc' mR NM ⊢
  clear L3 b3 y3 y4 hM
  go_wp2_with fail
  go_loopg [7] (M - 1) (fun gk i wr => ∃ k : Nat, (gk = M - k ∧ 1 ≤ k ∧ k ≤ M + 1 ∧ Below u3.heap.size u3 wr) ∧ i = .int .i64 (k : Int))
  case atStart => exact ⟨1, ⟨rfl, by omega, by omega, Below.refl _ _⟩, rfl⟩
  case round =>
    obtain ⟨k, ⟨hg, hk1, hk, hB3⟩, rfl⟩ := hrel
    have HK : Hid (gk = M - k) := hg
    have BR : Hid (Below u3.heap.size u3 wr) := hB3
    have BW : Hid (Below w.heap.size w wr) := bel_trans BE3.out hB3
    by_cases hz : k < M
    · obtain ⟨j, rfl⟩ : ∃ j, k = j + 1 := ⟨k - 1, by omega⟩
      obtain rfl := Y3.out (by rw [← HL.out]; omega)
      obtain ⟨x, hx⟩ : ∃ x, m[j]? = some x := ⟨_, List.getElem?_eq_getElem (by rw [← HL.out]; omega)⟩
      obtain ⟨y, hy⟩ : ∃ y, m[j + 1]? = some y := ⟨_, List.getElem?_eq_getElem (by rw [← HL.out]; omega)⟩
      have p1 := keep_of_below hB3 _ _ (Y4.out _ x hx).1
      have p2 := keep_of_below hB3 _ _ (Y4.out _ x hx).2
      have q1 := keep_of_below hB3 _ _ (Y4.out _ y hy).1
      have q2 := keep_of_below hB3 _ _ (Y4.out _ y hy).2
      have AH : Hid (Ahead x y) := by
        have h1 := (List.getElem?_eq_some_iff.1 hx)
        have h2 := (List.getElem?_eq_some_iff.1 hy)
        obtain ⟨g1, e1⟩ := h1
        obtain ⟨g2, e2⟩ := h2
        rw [← e1, ← e2]
        exact ((List.pairwise_iff_getElem.1 SM.out) j (j + 1) g1 g2 (by omega)).1
      obtain ⟨s, c⟩ := x
      obtain ⟨t, d⟩ := y
      simp only at p1 p2 q1 q2
      have bk : ((j + 1 : Nat) : Int) < (M : Int) := by omega
      have e0 : ((j + 1 : Nat) : Int) - 1 = (j : Int) := by omega
      have bj : (j : Int) < (M : Int) := by omega
      have bj0 : (0 : Int) ≤ (j : Int) := by omega
      have lb : b' < wr.heap.size := World.block_lt_of_cell? _ _ p1
      have lb1 : b' ≠ wr.heap.size := by omega
      have lb2 : b' ≠ wr.heap.size + 1 := by omega
      have wj : IntKind.i64.wrap (j : Int) = (j : Int) := by rw [IntKind.wrap_i64]; omega
      clear hg hB3 hx hy
      rcases AH.out with ha | ⟨ha, hb⟩
      · have a1 : ¬ c < d := by simp only at ha; omega
        have a2 : (c == d) = false := by simp only at ha; simp; omega
        clear ha
        go_wp2_with fail
        go_region
        all_goals
          go_wp2_with fail
          go_roundg (M - (j + 1 + 1))
          case measure => have := HK.out; omega
          case rel => exact ⟨j + 1 + 1, ⟨rfl, by omega, by omega, by first | exact ((BR.out.alloc BR.out.size _).alloc (by have := BR.out.size; simp; omega) _).drew | exact (((BR.out.drew).alloc BR.out.size _).alloc (by have := BR.out.size; simp; omega) _)⟩, by go_num⟩
      · have a1 : ¬ c < d := by simp only at ha; omega
        have a2 : (c == d) = true := by simp only at ha; simp; omega
        have a3 : Op.bytesLess s.toList t.toList = true := by
          rw [less_eq, Lib.toList_data, Lib.toList_data]
          exact decide_eq_true hb
        clear ha hb
        go_wp2_with fail
        go_region
        all_goals
          go_wp2_with fail
          go_roundg (M - (j + 1 + 1))
          case measure => have := HK.out; omega
          case rel => exact ⟨j + 1 + 1, ⟨rfl, by omega, by omega, by first | exact ((BR.out.alloc BR.out.size _).alloc (by have := BR.out.size; simp; omega) _).drew | exact (((BR.out.drew).alloc BR.out.size _).alloc (by have := BR.out.size; simp; omega) _)⟩, by go_num⟩
    · have bk : ¬ (k : Int) < (M : Int) := by omega
      have HR : Hid (HP wr w.heap.size (.pointer (some ⟨p, 0, none⟩)) R m D1) := C.since HP3.out hB3
      clear hg hB3
      by_cases M0 : M = 0
      · subst M0
        have n0 : n = 0 := by have := NM.out; omega
        subst n0
        have m0 : m = [] := List.length_eq_zero_iff.1 HL.out.symm
        go_wp2_with fail
        refine (C.last_none wr _ _ R _ D1 HR.out m0).mono ?_
        rintro e u4 ⟨rfl, b4⟩
        have BE4 := hid (bel_trans BW.out (bel_trans b4 (bel_alloc _ (.cells #[.string ⟨#[]⟩, .int .i64 0] 30))))
        clear b4 m0
        go_wp2_with fail
        refine (hawake_any C _).mono ?_
        rintro e u5 ⟨rfl, b5⟩
        go_wp2_with fail
        go_ret
        exact ⟨rfl, bel_trans BE4.out b5⟩
      · obtain ⟨j, rfl⟩ : ∃ j, M = j + 1 := ⟨M - 1, by omega⟩
        obtain rfl := Y3.out (by rw [← HL.out]; omega)
        obtain ⟨z, hz2⟩ : ∃ z, m[j]? = some z := ⟨_, List.getElem?_eq_getElem (by rw [← HL.out]; omega)⟩
        have hz3 : m.getLast? = some z := by rw [List.getLast?_eq_getElem?, ← HL.out, Nat.add_sub_cancel, hz2]
        have y0 := keep_of_below BR.out _ _ (Y4.out _ z hz2).1
        have y1 := keep_of_below BR.out _ _ (Y4.out _ z hz2).2
        have LS := hid (C.last_some wr _ _ R _ D1 z HR.out hz3)
        obtain ⟨zk, zc⟩ := z
        simp only at y0 y1 LS
        clear hz2 hz3
        go_wp2_with fail
        refine LS.out.mono ?_
        rintro e u4 ⟨rfl, b4⟩
        have B4 := hid b4
        clear b4 LS
        have m0 : ¬ (((j + 1 : Nat) : Int) = 0) := by omega
        have e0 : ((j + 1 : Nat) : Int) - 1 = (j : Int) := by omega
        have bj : (j : Int) < ((j + 1 : Nat) : Int) := by omega
        have bj0 : (0 : Int) ≤ (j : Int) := by omega
        go_wp2_with fail
        have KZ : Hid (Blk (u4.alloc (.cells #[.string zk, .int .i64 zc] 30)) u4.heap.size 30 #[.string zk, .int .i64 zc]) := Blk.new _ _ _
        have BZ : Hid (Below wr.heap.size wr (u4.alloc (.cells #[.string zk, .int .i64 zc] 30))) := bel_trans B4.out (bel_alloc _ _)
        generalize u4.alloc (.cells #[.string zk, .int .i64 zc] 30) = wz at KZ BZ ⊢
        have y0 : wz.cell? ⟨b', o' + j * 2, none⟩ = some (.string zk) := keep_of_below BZ.out _ _ y0
        have y1 : wz.cell? ⟨b', o' + j * 2 + 1, none⟩ = some (.int .i64 zc) := keep_of_below BZ.out _ _ y1
        have wj : IntKind.i64.wrap (j : Int) = (j : Int) := by rw [IntKind.wrap_i64]; omega
        have bj1 : (j : Int) < (j : Int) + 1 := by omega
        have LE : Hid (∀ w1, Below wz.heap.size wz w1 → Calls Try.prog 15 #[.pointer (some ⟨p, 0, none⟩)] w1 fun e w' => e = .returned (.int .i64 ((j + 1 : Nat) : Int)) ∧ Below wz.heap.size wz w') := fun w1 b1 => (C.len w1 _ _ R _ D1 (C.since HR.out (bel_trans BZ.out b1))).mono fun e w' h => ⟨by rw [HL.out]; exact h.1, bel_trans b1 h.2⟩
        have AW : Hid (∀ w1, Below wz.heap.size wz w1 → Calls Try.prog 9 #[] w1 fun e w' => e = .returned (.bool true) ∧ Below wz.heap.size wz w') := fun w1 b1 => (hawake_any C w1).mono fun e w' h => ⟨h.1, bel_trans b1 h.2⟩
        refine letterQ ?_
        intro QQ hQQ
        have Z0 : Hid (Below wz.heap.size wz wz.drew) := (Below.refl _ _).drew
        refine wp_region_held_drew (S := fun w2 => Below wz.heap.size wz w2) (by kernel_rfl) Z0.out (fun hHeld => ?_)
        clear hHeld
        generalize wz.drew = q0 at Z0 ⊢
        refine wpAnyH_take (i := 0) (v := ?_) rfl (by kernel_rfl) (by kernel_rfl) (by kernel_rfl) (fun _ _ _ h => h) (Or.inl ⟨by rfl, ?_⟩) Z0.out ?_
        rotate_left
        · intro wq hSw; go_simp; first | done | with_reducible rfl
        simp only [List.getElem_toArray, List.getElem_cons_zero, Act.put, List.setIfInBounds_toArray, List.set_cons_zero, List.set_cons_succ]
        refine wpAnyH_take (i := 1) (v := ?_) rfl (by kernel_rfl) (by kernel_rfl) (by kernel_rfl) (fun _ _ _ h => h) (Or.inl ⟨by rfl, ?_⟩) Z0.out ?_
        rotate_left
        · intro wq hSw; go_simp; first | done | with_reducible rfl
        simp only [List.getElem_toArray, List.getElem_cons_zero, List.getElem_cons_succ, Act.put, List.setIfInBounds_toArray, List.set_cons_zero, List.set_cons_succ]
        refine wpAnyH_take (i := 2) (v := ?_) rfl (by kernel_rfl) (by kernel_rfl) (by kernel_rfl) (fun _ _ _ h => h) (Or.inl ⟨by rfl, ?_⟩) Z0.out ?_
        rotate_left
        · intro wq hSw; have cl0 := (KZ.out.since hSw).cell 0; have cl1 := (KZ.out.since hSw).cell 1; go_simp; first | done | with_reducible rfl
        simp only [List.getElem_toArray, List.getElem_cons_zero, List.getElem_cons_succ, Act.put, List.setIfInBounds_toArray, List.set_cons_zero, List.set_cons_succ]
        refine wpAnyH_take (i := 3) (v := ?_) rfl (by kernel_rfl) (by kernel_rfl) (by kernel_rfl) (fun _ _ _ h => h) (Or.inl ⟨by rfl, ?_⟩) Z0.out ?_
        rotate_left
        · intro wq hSw; go_simp; first | done | with_reducible rfl
        simp only [List.getElem_toArray, List.getElem_cons_zero, List.getElem_cons_succ, Act.put, List.setIfInBounds_toArray, List.set_cons_zero, List.set_cons_succ]
        refine wpAnyH_take (i := 4) (v := ?_) rfl (by kernel_rfl) (by kernel_rfl) (by kernel_rfl) (fun _ _ _ h => h) (Or.inl ⟨by rfl, ?_⟩) Z0.out ?_
        rotate_left
        · intro wq hSw; go_simp; first | done | with_reducible rfl
        simp only [List.getElem_toArray, List.getElem_cons_zero, List.getElem_cons_succ, Act.put, List.setIfInBounds_toArray, List.set_cons_zero, List.set_cons_succ]
        refine wpAnyH_take (i := 5) (v := ?_) rfl (by kernel_rfl) (by kernel_rfl) (by kernel_rfl) (fun _ _ _ h => h) (Or.inl ⟨by rfl, ?_⟩) Z0.out ?_
        rotate_left
        · intro wq hSw; go_simp; first | done | with_reducible rfl
        simp only [List.getElem_toArray, List.getElem_cons_zero, List.getElem_cons_succ, Act.put, List.setIfInBounds_toArray, List.set_cons_zero, List.set_cons_succ]
        refine wpAnyH_take (i := 6) (v := ?_) rfl (by kernel_rfl) (by kernel_rfl) (by kernel_rfl) (fun _ _ _ h => h) (Or.inl ⟨by rfl, ?_⟩) Z0.out ?_
        rotate_left
        · intro wq hSw; have cl0 := wj; go_simp; first | done | with_reducible rfl
        simp only [List.getElem_toArray, List.getElem_cons_zero, List.getElem_cons_succ, Act.put, List.setIfInBounds_toArray, List.set_cons_zero, List.set_cons_succ]
        refine wpAnyH_take (i := 7) (v := ?_) rfl (by kernel_rfl) (by kernel_rfl) (by kernel_rfl) (fun _ _ _ h => h) (Or.inl ⟨by rfl, ?_⟩) Z0.out ?_
        rotate_left
        · intro wq hSw; have cl0 := wj; have cl1 := bj; have cl2 := bj0; have cl3 := bj1; go_simp; first | done | with_reducible rfl
        simp only [List.getElem_toArray, List.getElem_cons_zero, List.getElem_cons_succ, Act.put, List.setIfInBounds_toArray, List.set_cons_zero, List.set_cons_succ]
        refine wpAnyH_take (i := 8) (v := ?_) rfl (by kernel_rfl) (by kernel_rfl) (by kernel_rfl) (fun _ _ _ h => h) (Or.inl ⟨by rfl, ?_⟩) Z0.out ?_
        rotate_left
        · intro wq hSw; have cl0 := keep_of_below hSw _ _ y0; have cl1 := keep_of_below hSw _ _ y1; go_simp; first | done | with_reducible rfl
        simp only [List.getElem_toArray, List.getElem_cons_zero, List.getElem_cons_succ, Act.put, List.setIfInBounds_toArray, List.set_cons_zero, List.set_cons_succ]
        refine wpAnyH_take (i := 9) (v := ?_) rfl (by kernel_rfl) (by kernel_rfl) (by kernel_rfl) (fun _ _ _ h => h) (Or.inl ⟨by rfl, ?_⟩) Z0.out ?_
        rotate_left
        · intro wq hSw; go_simp; first | done | with_reducible rfl
        simp only [List.getElem_toArray, List.getElem_cons_zero, List.getElem_cons_succ, Act.put, List.setIfInBounds_toArray, List.set_cons_zero, List.set_cons_succ]
        refine wpAnyH_take (i := 10) (v := ?_) rfl (by kernel_rfl) (by kernel_rfl) (by kernel_rfl) (fun _ _ _ h => h) (Or.inl ⟨by rfl, ?_⟩) Z0.out ?_
        rotate_left
        · intro wq hSw; go_simp; first | done | with_reducible rfl
        simp only [List.getElem_toArray, List.getElem_cons_zero, List.getElem_cons_succ, Act.put, List.setIfInBounds_toArray, List.set_cons_zero, List.set_cons_succ]
        refine wpAnyH_take (i := 11) (v := ?_) rfl (by kernel_rfl) (by kernel_rfl) (by kernel_rfl) (fun _ _ _ h => h) (Or.inl ⟨by rfl, ?_⟩) Z0.out ?_
        rotate_left
        · intro wq hSw; go_simp; first | done | with_reducible rfl
        simp only [List.getElem_toArray, List.getElem_cons_zero, List.getElem_cons_succ, Act.put, List.setIfInBounds_toArray, List.set_cons_zero, List.set_cons_succ]
        refine wpAnyH_take (i := 12) (v := ?_) rfl (by kernel_rfl) (by kernel_rfl) (by kernel_rfl) (fun _ _ _ h => h) (Or.inl ⟨by rfl, ?_⟩) Z0.out ?_
        rotate_left
        · intro wq hSw; go_simp; first | done | with_reducible rfl
        simp only [List.getElem_toArray, List.getElem_cons_zero, List.getElem_cons_succ, Act.put, List.setIfInBounds_toArray, List.set_cons_zero, List.set_cons_succ]
        refine wpAnyH_take (i := 13) (v := ?_) rfl (by kernel_rfl) (by kernel_rfl) (by kernel_rfl) (fun _ _ _ h => h) (Or.inl ⟨by rfl, ?_⟩) Z0.out ?_
        rotate_left
        · intro wq hSw; go_simp; first | done | with_reducible rfl
        simp only [List.getElem_toArray, List.getElem_cons_zero, List.getElem_cons_succ, Act.put, List.setIfInBounds_toArray, List.set_cons_zero, List.set_cons_succ]
        refine wpAnyH_take (i := 14) (v := ?_) rfl (by kernel_rfl) (by kernel_rfl) (by kernel_rfl) (fun _ _ _ h => h) (Or.inl ⟨by rfl, ?_⟩) Z0.out ?_
        rotate_left
        · intro wq hSw; go_simp; first | done | with_reducible rfl
        simp only [List.getElem_toArray, List.getElem_cons_zero, List.getElem_cons_succ, Act.put, List.setIfInBounds_toArray, List.set_cons_zero, List.set_cons_succ]
        refine wpAnyH_ready (rs := [15]) (by kernel_rfl) (by simp) ?_
        refine AllReadyH.cons rfl (fun K0 hK0 => ?_) ?_
        rotate_left
        · exact AllReadyH.nil
        refine step_func 15 #[.pointer (some ⟨p, 0, none⟩)] (by rfl) rfl (by simp [Act.eval]) (fun _ _ => by kernel_rfl) ?_
        refine (LE.out _ Z0.out).mono ?_
        rintro e q1 ⟨rfl, cc⟩
        have Z1 : Hid (Below wz.heap.size wz q1) := cc
        clear cc
        refine ⟨_, rfl, ?_⟩
        refine hK0.out _ _ Z1.out (fun hHeld => ?_)
        clear hK0 K0 hHeld
        simp only [Act.put, List.setIfInBounds_toArray]
        refine wpAnyH_take (i := 16) (v := ?_) rfl (by kernel_rfl) (by kernel_rfl) (by kernel_rfl) (fun _ _ _ h => h) (Or.inl ⟨by rfl, ?_⟩) Z1.out ?_
        rotate_left
        · intro wq hSw; go_simp; first | done | with_reducible rfl
        simp only [List.getElem_toArray, List.getElem_cons_zero, List.getElem_cons_succ, Act.put, List.setIfInBounds_toArray, List.set_cons_zero, List.set_cons_succ]
        refine wpAnyH_take (i := 17) (v := ?_) rfl (by kernel_rfl) (by kernel_rfl) (by kernel_rfl) (fun _ _ _ h => h) (Or.inl ⟨by rfl, ?_⟩) Z1.out ?_
        rotate_left
        · intro wq hSw; go_simp; first | done | with_reducible rfl
        simp only [List.getElem_toArray, List.getElem_cons_zero, List.getElem_cons_succ, Act.put, List.setIfInBounds_toArray, List.set_cons_zero, List.set_cons_succ]
        refine wpAnyH_take (i := 18) (v := ?_) rfl (by kernel_rfl) (by kernel_rfl) (by kernel_rfl) (fun _ _ _ h => h) (Or.inl ⟨by rfl, ?_⟩) Z1.out ?_
        rotate_left
        · intro wq hSw; go_simp; first | done | with_reducible rfl
        simp only [List.getElem_toArray, List.getElem_cons_zero, List.getElem_cons_succ, Act.put, List.setIfInBounds_toArray, List.set_cons_zero, List.set_cons_succ]
        refine wpAnyH_ready (rs := [19]) (by kernel_rfl) (by simp) ?_
        refine AllReadyH.cons rfl (fun K0 hK0 => ?_) ?_
        rotate_left
        · exact AllReadyH.nil
        refine step_func 9 #[] (by rfl) rfl (by simp [Act.eval]) (fun _ _ => by kernel_rfl) ?_
        refine (AW.out _ Z1.out).mono ?_
        rintro e q2 ⟨rfl, cc⟩
        have Z2 : Hid (Below wz.heap.size wz q2) := cc
        clear cc
        refine ⟨_, rfl, ?_⟩
        refine hK0.out _ _ Z2.out (fun hHeld => ?_)
        clear hK0 K0 hHeld
        simp only [Act.put, List.setIfInBounds_toArray]
        refine wpAnyH_take (i := 20) (v := ?_) rfl (by kernel_rfl) (by kernel_rfl) (by kernel_rfl) (fun _ _ _ h => h) (Or.inl ⟨by rfl, ?_⟩) Z2.out ?_
        rotate_left
        · intro wq hSw; go_simp; first | done | with_reducible rfl
        simp only [List.getElem_toArray, List.getElem_cons_zero, List.getElem_cons_succ, Act.put, List.setIfInBounds_toArray, List.set_cons_zero, List.set_cons_succ]
        refine wpAnyH_take (i := 21) (v := ?_) rfl (by kernel_rfl) (by kernel_rfl) (by kernel_rfl) (fun _ _ _ h => h) (Or.inl ⟨by rfl, ?_⟩) Z2.out ?_
        rotate_left
        · intro wq hSw; go_simp; first | done | with_reducible rfl
        simp only [List.getElem_toArray, List.getElem_cons_zero, List.getElem_cons_succ, Act.put, List.setIfInBounds_toArray, List.set_cons_zero, List.set_cons_succ]
        refine wpAnyH_done (by kernel_rfl) ?_ _
        refine NoPanic.normal ?_
        refine hQQ.out _ _ ?_
        clear hQQ
        go_wp2_with fail
        go_ret
        exact ⟨rfl, bel_trans BW.out (bel_trans BZ.out Z2.out)⟩
end Go.Proofs.Ytejdfahokbheoaa
