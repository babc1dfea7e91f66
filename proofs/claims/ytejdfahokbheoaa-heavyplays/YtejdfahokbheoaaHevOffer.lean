
/-
  Offer of layer 14 (heavy).
-/
import Derived.Test.YtejdfahokbheoaaHevLast
namespace Go.Proofs.Ytejdfahokbheoaa
open Go.RowKit Hv Go.Deep
set_option linter.unusedVariables false
set_option linter.unusedSimpArgs false

/-- A heap that lies as it must, of any number of keys. -/
def WholeX (w : World) (Bd p g b room : Nat) (m : List Itm) : Prop := ∃ n, Whole w Bd p g b room n m
theorem Whole.keep {w w' : World} {Bd p g b room n : Nat} {m : List Itm} (h : Whole w Bd p g b room n m) (s : Same (Of3 p g b) w w') : Whole w' Bd p g b room n m := by
  obtain ⟨a, F, h1, h2⟩ := h
  exact ⟨a, F, ⟨h1.at'.keep s, h1.pl, h1.holds, h1.keys⟩, h2⟩
theorem setF_same {F : ByteArray → Option Int} {s : ByteArray} {x : Int} (h : F s = some x) : setF F s x = F := by
  funext t
  unfold setF
  by_cases e : t = s
  · rw [if_pos e, e, h]
  · rw [if_neg e]
theorem upd_keys {n : Nat} {a : Nat → Itm} (h : ∀ i, i < n → (a i).k.size ≤ maxLen) {i n' : Nat} {x : Itm} (hx : x.k.size ≤ maxLen) (e : ∀ j, j < n' → j ≠ i → j < n) : ∀ j, j < n' → (upd a i x j).k.size ≤ maxLen := fun j hj => by
  by_cases k : j = i
  · rw [k, upd_at]; exact hx
  · rw [upd_not _ _ k]; exact h j (e j hj k)
theorem offer_nil (w : World) (s : ByteArray) (c : Int) : Calls Try.prog 12 #[.pointer none, .string s, .int .i64 c] w fun e w' => e = .returned (.bool false) ∧ w' = w := by
  go_enter Try.func12, Try.ntmps12
  go_wp2_with fail
  go_ret
  exact ⟨rfl, rfl⟩
set_option maxHeartbeats 3200000 in
theorem offer_any (w : World) (Bd p g b room : Nat) (m : List Itm) (hW : WholeX w Bd p g b room m) (hbd : Bd ≤ w.heap.size) (s : ByteArray) (c : Int) (zs : s.size ≤ maxLen) :
    Calls Try.prog 12 #[.pointer (some ⟨p, 0, none⟩), .string s, .int .i64 c] w fun e w' => e = .returned (.bool (offerL room m s c).2) ∧ WholeX w' Bd p g b room (offerL room m s c).1 ∧ Below Bd w w' ∧ Oth p g b w w' := by
  obtain ⟨n, a, F, hL, hF⟩ := hW
  have nr := hL.at'.nr
  have r64 := hL.at'.r64
  have r1 := hL.at'.r1
  have HL := hid hL
  have HF := hid hF
  have k1 := hL.at'.c1
  rcases hL.pl.known s with ⟨i, hi, he, hFs⟩ | ⟨hne, hFs⟩
  · have OF : Hid (offerL room m s c = (putL (withoutL m s) ⟨s, c⟩, true)) := by show _ = _; rw [← he]; exact hL.holds.offer_in hi c
    have HS : Hid (HoldsL n (upd a i ⟨s, c⟩) (putL (withoutL m s) ⟨s, c⟩)) := by have := hL.holds.set hi c; rwa [he] at this
    have HP : Hid (PlF n (upd a i ⟨s, c⟩) (setF F s i)) := by rw [setF_same hFs]; have := hL.pl.set i c; rwa [he] at this
    have HK : Hid (∀ j, j < n → (upd a i ⟨s, c⟩ j).k.size ≤ maxLen) := upd_keys hL.keys zs fun j hj _ => hj
    have HB2 : Hid (HeapB n (upd a i ⟨s, c⟩) i) := heap_upd hF i _
    have PN : Hid (putN F s n = n) := putN_at (by rw [hFs]; rfl)
    have FS : Hid (F s = some (i : Int)) := hFs
    rw [OF.out]
    clear hL hF hFs he
    go_enter Try.func12, Try.ntmps12
    go_wp2_with (at_lookup; refine wp_look_some _ rfl (.tmp 17) (.tmp 18) 44 rfl Try.underlying44 b n F rfl HL.out.at'.map.f s rfl zs i FS.out ?_)
    refine (put_any w Bd p g b room n a F HL.out.at' hbd i s c (by omega) zs (by rw [PN.out]; exact nr)).mono ?_
    rintro e u2 ⟨rfl, h2, b2, o2⟩
    rw [PN.out] at h2
    have HL2 : Hid (HevL u2 Bd p g b room n (upd a i ⟨s, c⟩) (setF F s i) (putL (withoutL m s) ⟨s, c⟩)) := ⟨h2, HP.out, HS.out, HK.out⟩
    have BE2 := hid b2
    have OT2 := hid o2
    clear h2 b2 o2 k1
    go_wp2_with fail
    refine (rise_any u2 Bd p g b room n _ _ _ HL2.out (by have := BE2.out.size; omega) i (by omega) HB2.out).mono ?_
    rintro e u3 ⟨rfl, h3, b3, o3⟩
    have HD3 := hid h3
    have BE3 : Hid (Below Bd w u3) := BE2.out.trans b3
    have OT3 : Hid (Oth p g b w u3) := OT2.out.trans o3
    clear h3 b3 o3 HL2 BE2 OT2 HB2
    go_wp2_with fail
    refine (sink_any u3 Bd p g b room n _ i HD3.out (by have := BE3.out.size; omega) (by omega)).mono ?_
    rintro e u4 ⟨rfl, h4, b4, o4⟩
    have BE4 : Hid (Below Bd w u4) := BE3.out.trans b4
    have OT4 : Hid (Oth p g b w u4) := OT3.out.trans o4
    go_wp2_with fail
    go_ret
    exact ⟨rfl, ⟨_, h4⟩, BE4.out, OT4.out⟩
  · by_cases nl : n < room
    · have OF : Hid (offerL room m s c = (putL m ⟨s, c⟩, true)) := hL.holds.offer_room hne nl c
      have HS : Hid (HoldsL (n + 1) (upd a n ⟨s, c⟩) (putL m ⟨s, c⟩)) := hL.holds.app (x := ⟨s, c⟩) hne
      have HP : Hid (PlF (n + 1) (upd a n ⟨s, c⟩) (setF F s n)) := hL.pl.app (x := ⟨s, c⟩) hne
      have HK : Hid (∀ j, j < n + 1 → (upd a n ⟨s, c⟩ j).k.size ≤ maxLen) := upd_keys hL.keys zs fun j hj e => by omega
      have HB2 : Hid (HeapB (n + 1) (upd a n ⟨s, c⟩) n) := (heap_app hF _).b
      have PN : Hid (putN F s n = n + 1) := by show _ = _; unfold putN; rw [hFs]; rfl
      have FS : Hid (F s = none) := hFs
      have bl : (n : Int) < (room : Int) := by omega
      rw [OF.out]
      clear hL hF hFs hne
      have K0 : ∀ q os, (Go.Sort.grow (w.drewN q) os).cell? ⟨p, 0, none⟩ = some (.slice (some ⟨g, 0, none⟩) room room) := fun q os => (HL.out.at'.grn (grn_at w q os)).c0
      have K1 : ∀ q os, (Go.Sort.grow (w.drewN q) os).cell? ⟨p, 1, none⟩ = some (.map (some b)) := fun q os => (HL.out.at'.grn (grn_at w q os)).c1
      have K2 : ∀ q os ty, (Builtin.len_ #[44] ty #[.map (some b)]).run Try.prog (Go.Sort.grow (w.drewN q) os) = .ok (.int .i64 (n : Int)) (Go.Sort.grow (w.drewN q) os) := fun q os ty => (HL.out.at'.grn (grn_at w q os)).map.len ty
      have mx := mixed
      go_enter Try.func12, Try.ntmps12
      go_wp2_with (at_lookup; refine wp_look_none _ rfl (.tmp 17) (.tmp 18) 44 rfl Try.underlying44 b n F rfl HL.out.at'.map.f s rfl zs FS.out ?_)
      go_quiet_grown (fail)
      have HL1 : Hid (HevL (Go.Sort.grow (w.drewN nq) osq) Bd p g b room n a F m) := HL.out.grn (grn_at w nq osq)
      have BE1 : Hid (Below Bd w (Go.Sort.grow (w.drewN nq) osq)) := (grn_at w nq osq).below.mono hbd
      have OT1 : Hid (Oth p g b w (Go.Sort.grow (w.drewN nq) osq)) := Oth.since (grn_at w nq osq).below
      clear K0 K1 K2 mx k1 HL
      generalize Go.Sort.grow (w.drewN nq) osq = u1 at HL1 BE1 OT1 ⊢
      have k1 := HL1.out.at'.c1
      have k2 : ∀ ty, (Builtin.len_ #[44] ty #[.map (some b)]).run Try.prog u1 = .ok (.int .i64 (n : Int)) u1 := fun ty => HL1.out.at'.map.len ty
      go_wp2_with fail
      refine (put_any u1 Bd p g b room n a F HL1.out.at' (by have := BE1.out.size; omega) n s c (by omega) zs (by rw [PN.out]; exact nl)).mono ?_
      rintro e u2 ⟨rfl, h2, b2, o2⟩
      rw [PN.out] at h2
      have HL2 : Hid (HevL u2 Bd p g b room (n + 1) (upd a n ⟨s, c⟩) (setF F s n) (putL m ⟨s, c⟩)) := ⟨h2, HP.out, HS.out, HK.out⟩
      have BE2 : Hid (Below Bd w u2) := BE1.out.trans b2
      have OT2 : Hid (Oth p g b w u2) := OT1.out.trans o2
      clear h2 b2 o2 k1 k2 HL1 BE1 OT1
      go_wp2_with fail
      refine (rise_any u2 Bd p g b room (n + 1) _ _ _ HL2.out (by have := BE2.out.size; omega) n (by omega) HB2.out).mono ?_
      rintro e u3 ⟨rfl, h3, b3, o3⟩
      have HD3 := hid h3
      have BE3 : Hid (Below Bd w u3) := BE2.out.trans b3
      have OT3 : Hid (Oth p g b w u3) := OT2.out.trans o3
      clear h3 b3 o3 HL2 BE2 OT2 HB2
      go_wp2_with fail
      refine (sink_any u3 Bd p g b room (n + 1) _ n HD3.out (by have := BE3.out.size; omega) (by omega)).mono ?_
      rintro e u4 ⟨rfl, h4, b4, o4⟩
      have BE4 : Hid (Below Bd w u4) := BE3.out.trans b4
      have OT4 : Hid (Oth p g b w u4) := OT3.out.trans o4
      go_wp2_with fail
      go_ret
      exact ⟨rfl, ⟨_, h4⟩, BE4.out, OT4.out⟩
    · have n0 : 0 < n := by omega
      have FS : Hid (F s = none) := hFs
      have bl : ¬ (n : Int) < (room : Int) := by omega
      have NE := hid hne
      obtain ⟨s0, hs0⟩ : ∃ s0, s0 = (a 0).k := ⟨_, rfl⟩
      obtain ⟨c0, hc0⟩ : ∃ c0, c0 = (a 0).c := ⟨_, rfl⟩
      have LS : Hid (∀ u, Grn w u → Calls Try.prog 18 #[.pointer (some ⟨p, 0, none⟩)] u fun e w' => e = .returned (.tuple #[.agg #[.string s0, .int .i64 c0], .bool true]) ∧ Below u.heap.size u w') := fun u gu => by rw [hs0, hc0]; exact last_some u Bd p g b room n a F (hL.at'.grn gu) n0
      by_cases cc : c > c0
      · have OF : Hid (offerL room m s c = (putL m.dropLast ⟨s, c⟩, true)) := hL.holds.offer_root hF n0 hne nl (by rw [← hc0]; exact cc)
        have HS : Hid (HoldsL n (upd a 0 ⟨s, c⟩) (putL m.dropLast ⟨s, c⟩)) := hL.holds.root (x := ⟨s, c⟩) hF n0 hne
        have HP : Hid (PlF n (upd a 0 ⟨s, c⟩) (setF (delF F s0) s (0 : Nat))) := by rw [hs0]; exact hL.pl.root n0 hL.holds.inj (x := ⟨s, c⟩) hne
        have HK : Hid (∀ j, j < n → (upd a 0 ⟨s, c⟩ j).k.size ≤ maxLen) := upd_keys hL.keys zs fun j hj _ => hj
        have HB2 : Hid (HeapB n (upd a 0 ⟨s, c⟩) 0) := heap_upd hF 0 _
        have z0 : s0.size ≤ maxLen := by rw [hs0]; exact hL.keys 0 n0
        have F0 : Hid ((F s0).isSome = true) := by show _ = _; rw [hs0]; exact plF_some hL.pl n0
        obtain ⟨n1, hn1⟩ : ∃ n1, n = n1 + 1 := ⟨n - 1, by omega⟩
        have PN : Hid (putN (delF F s0) s n1 = n) := by
          show _ = _
          unfold putN delF
          by_cases e : s = s0
          · rw [if_pos e, hn1]; rfl
          · rw [if_neg e, hFs, hn1]; rfl
        have HN := hid hn1
        have c2 : ¬ c ≤ c0 := by omega
        rw [OF.out]
        clear hL hF hFs hne hs0 hc0 hn1 cc
        have K0 : ∀ q os, (Go.Sort.grow (w.drewN q) os).cell? ⟨p, 0, none⟩ = some (.slice (some ⟨g, 0, none⟩) room room) := fun q os => (HL.out.at'.grn (grn_at w q os)).c0
        have K1 : ∀ q os, (Go.Sort.grow (w.drewN q) os).cell? ⟨p, 1, none⟩ = some (.map (some b)) := fun q os => (HL.out.at'.grn (grn_at w q os)).c1
        have K2 : ∀ q os ty, (Builtin.len_ #[44] ty #[.map (some b)]).run Try.prog (Go.Sort.grow (w.drewN q) os) = .ok (.int .i64 (n : Int)) (Go.Sort.grow (w.drewN q) os) := fun q os ty => (HL.out.at'.grn (grn_at w q os)).map.len ty
        have mx := mixed
        go_enter Try.func12, Try.ntmps12
        go_wp2_with (at_lookup; refine wp_look_none _ rfl (.tmp 17) (.tmp 18) 44 rfl Try.underlying44 b n F rfl HL.out.at'.map.f s rfl zs FS.out ?_)
        go_quiet_grown (fail)
        have HL1 : Hid (HevL (Go.Sort.grow (w.drewN nq) osq) Bd p g b room n a F m) := HL.out.grn (grn_at w nq osq)
        have BE1 : Hid (Below Bd w (Go.Sort.grow (w.drewN nq) osq)) := (grn_at w nq osq).below.mono hbd
        have OT1 : Hid (Oth p g b w (Go.Sort.grow (w.drewN nq) osq)) := Oth.since (grn_at w nq osq).below
        have LL := hid (LS.out _ (grn_at w nq osq))
        clear K0 K1 K2 mx k1 HL
        generalize Go.Sort.grow (w.drewN nq) osq = u1 at HL1 BE1 OT1 LL ⊢
        go_wp2_with fail
        refine LL.out.mono ?_
        rintro e v1 ⟨rfl, b1⟩
        have HL2 : Hid (HevL v1 Bd p g b room n a F m) := ⟨HL1.out.at'.since b1, HL1.out.pl, HL1.out.holds, HL1.out.keys⟩
        have BE2 : Hid (Below Bd w v1) := BE1.out.trans (b1.mono (by have := BE1.out.size; omega))
        have OT2 : Hid (Oth p g b w v1) := OT1.out.trans (Oth.since b1)
        clear b1 HL1 BE1 OT1 LL
        go_wp2_with fail
        have KB : Hid (Blk (v1.alloc (.cells #[.string s0, .int .i64 c0] 30)) v1.heap.size 30 #[.string s0, .int .i64 c0]) := Blk.new _ _ _
        have HA3 : Hid (HevAt (v1.alloc (.cells #[.string s0, .int .i64 c0] 30)) Bd p g b room n a F) := HL2.out.at'.since (bel_alloc _ _)
        have BE3 : Hid (Below Bd w (v1.alloc (.cells #[.string s0, .int .i64 c0] 30))) := BE2.out.alloc (by have := BE2.out.size; omega) _
        have OT3 : Hid (Oth p g b w (v1.alloc (.cells #[.string s0, .int .i64 c0] 30))) := OT2.out.trans (Oth.since (bel_alloc _ _))
        have NB : Hid (v1.heap.size ≠ b) := Nat.ne_of_gt HL2.out.at'.map.lt
        clear HL2 BE2 OT2
        generalize v1.alloc (.cells #[.string s0, .int .i64 c0] 30) = X at KB HA3 BE3 OT3 ⊢
        generalize v1.heap.size = q at KB NB ⊢
        have k1 := HA3.out.c1
        have q0 : X.cell? ⟨q, 0, none⟩ = some (.string s0) := KB.out.cell 0
        refine letterQ ?_
        intro QQ hQQ
        have Z0 : Hid (X.drew.cell? ⟨p, 1, none⟩ = some (.map (some b)) ∧ X.drew.cell? ⟨q, 0, none⟩ = some (.string s0)) := ⟨k1, q0⟩
        have MW : Hid (MapN X.drew b (n1 + 1) F) := by have := HA3.out.map; rw [HN.out] at this; exact this.of rfl
        have HW : Hid (HevAt X.drew Bd p g b room n a F) := HA3.out.grn (Grn.refl _).drew
        have BW : Hid (Below Bd w X.drew) := BE3.out.drew
        have OW : Hid (Oth p g b w X.drew) := OT3.out.trans (Oth.since (Below.refl _ _).drew)
        refine wp_region_held_drew (S := fun w2 => w2.cell? ⟨p, 1, none⟩ = some (.map (some b)) ∧ w2.cell? ⟨q, 0, none⟩ = some (.string s0)) (by kernel_rfl) Z0.out (fun hHeld => ?_)
        clear hHeld
        generalize X.drew = y0 at Z0 MW HW BW OW ⊢
        refine wpAnyH_take (i := 0) (v := ?_) rfl (by kernel_rfl) (by kernel_rfl) (by kernel_rfl) (fun _ _ _ h => h) (Or.inl ⟨by rfl, ?_⟩) Z0.out ?_
        rotate_left
        · intro wq hSw; go_simp; first | done | with_reducible rfl
        simp only [List.getElem_toArray, List.getElem_cons_zero, Act.put, List.setIfInBounds_toArray, List.set_cons_zero, List.set_cons_succ]
        refine wpAnyH_take (i := 1) (v := ?_) rfl (by kernel_rfl) (by kernel_rfl) (by kernel_rfl) (fun _ _ _ h => h) (Or.inl ⟨by rfl, ?_⟩) Z0.out ?_
        rotate_left
        · intro wq hSw; go_simp; first | done | with_reducible rfl
        simp only [List.getElem_toArray, List.getElem_cons_zero, List.getElem_cons_succ, Act.put, List.setIfInBounds_toArray, List.set_cons_zero, List.set_cons_succ]
        refine wpAnyH_take (i := 2) (v := ?_) rfl (by kernel_rfl) (by kernel_rfl) (by kernel_rfl) (fun _ _ _ h => h) (Or.inl ⟨by rfl, ?_⟩) Z0.out ?_
        rotate_left
        · intro wq hSw; go_simp; first | done | with_reducible rfl
        simp only [List.getElem_toArray, List.getElem_cons_zero, List.getElem_cons_succ, Act.put, List.setIfInBounds_toArray, List.set_cons_zero, List.set_cons_succ]
        refine wpAnyH_take (i := 3) (v := ?_) rfl (by kernel_rfl) (by kernel_rfl) (by kernel_rfl) (fun _ _ _ h => h) (Or.inl ⟨by rfl, ?_⟩) Z0.out ?_
        rotate_left
        · intro wq hSw; have cl0 := hSw.1; go_simp; first | done | with_reducible rfl
        simp only [List.getElem_toArray, List.getElem_cons_zero, List.getElem_cons_succ, Act.put, List.setIfInBounds_toArray, List.set_cons_zero, List.set_cons_succ]
        refine wpAnyH_take (i := 4) (v := ?_) rfl (by kernel_rfl) (by kernel_rfl) (by kernel_rfl) (fun _ _ _ h => h) (Or.inl ⟨by rfl, ?_⟩) Z0.out ?_
        rotate_left
        · intro wq hSw; go_simp; first | done | with_reducible rfl
        simp only [List.getElem_toArray, List.getElem_cons_zero, List.getElem_cons_succ, Act.put, List.setIfInBounds_toArray, List.set_cons_zero, List.set_cons_succ]
        refine wpAnyH_take (i := 5) (v := ?_) rfl (by kernel_rfl) (by kernel_rfl) (by kernel_rfl) (fun _ _ _ h => h) (Or.inl ⟨by rfl, ?_⟩) Z0.out ?_
        rotate_left
        · intro wq hSw; have cl1 := hSw.2; go_simp; first | done | with_reducible rfl
        simp only [List.getElem_toArray, List.getElem_cons_zero, List.getElem_cons_succ, Act.put, List.setIfInBounds_toArray, List.set_cons_zero, List.set_cons_succ]
        refine wpAnyH_ready (rs := [6]) (by kernel_rfl) (by simp) ?_
        refine AllReadyH.cons rfl (fun K0 hK0 => ?_) ?_
        rotate_left
        · exact AllReadyH.nil
        refine step_dropN rfl (.tmp 38) (.tmp 40) rfl b n1 F (by simp [Act.eval]) MW.out s0 (by simp [Act.eval]) z0 F0.out ?_
        intro y1 M1 T1
        have Z1 : Hid (y1.cell? ⟨p, 1, none⟩ = some (.map (some b)) ∧ y1.cell? ⟨q, 0, none⟩ = some (.string s0)) := ⟨turned_cell T1 Z0.out.1 HA3.out.pb, turned_cell T1 Z0.out.2 NB.out⟩
        refine hK0.out _ _ Z1.out (fun hHeld => ?_)
        clear hK0 K0 hHeld
        refine wpAnyH_done (by kernel_rfl) ?_ _
        refine NoPanic.normal ?_
        refine hQQ.out _ _ ?_
        clear hQQ
        have HA4 : Hid (HevAt y1 Bd p g b room n1 a (delF F s0)) := HW.out.turn T1 M1 (by have := HN.out; omega)
        have BE4 : Hid (Below Bd w y1) := turned_below BW.out T1 HA3.out.bb (by have := BW.out.size; omega)
        have OT4 : Hid (Oth p g b w y1) := OW.out.trans (Oth.turn T1)
        clear M1 T1 Z0 Z1 MW HW BW OW HA3 KB BE3 OT3 k1 q0
        go_wp2_with fail
        refine (put_any y1 Bd p g b room n1 a (delF F s0) HA4.out (by have := BE4.out.size; omega) 0 s c (by omega) zs (by rw [PN.out]; exact nr)).mono ?_
        rintro e u2 ⟨rfl, h2, b2, o2⟩
        rw [PN.out] at h2
        have HL2 : Hid (HevL u2 Bd p g b room n (upd a 0 ⟨s, c⟩) (setF (delF F s0) s (0 : Nat)) (putL m.dropLast ⟨s, c⟩)) := ⟨h2, HP.out, HS.out, HK.out⟩
        have BE2 : Hid (Below Bd w u2) := BE4.out.trans b2
        have OT2 : Hid (Oth p g b w u2) := OT4.out.trans o2
        clear h2 b2 o2 HA4 BE4 OT4
        go_wp2_with fail
        refine (rise_any u2 Bd p g b room n _ _ _ HL2.out (by have := BE2.out.size; omega) 0 (by omega) HB2.out).mono ?_
        rintro e u3 ⟨rfl, h3, b3, o3⟩
        have HD3 := hid h3
        have BE3 : Hid (Below Bd w u3) := BE2.out.trans b3
        have OT3 : Hid (Oth p g b w u3) := OT2.out.trans o3
        clear h3 b3 o3 HL2 BE2 OT2 HB2
        go_wp2_with fail
        refine (sink_any u3 Bd p g b room n _ 0 HD3.out (by have := BE3.out.size; omega) (by omega)).mono ?_
        rintro e u4 ⟨rfl, h4, b4, o4⟩
        have BE4 : Hid (Below Bd w u4) := BE3.out.trans b4
        have OT4 : Hid (Oth p g b w u4) := OT3.out.trans o4
        go_wp2_with fail
        go_ret
        exact ⟨rfl, ⟨_, h4⟩, BE4.out, OT4.out⟩
      · have OF : Hid (offerL room m s c = (m, false)) := hL.holds.offer_no hF n0 hne nl (by rw [← hc0]; exact cc)
        have c2 : c ≤ c0 := by omega
        rw [OF.out]
        clear hL hF hFs hne hs0 hc0 cc
        have K0 : ∀ q os, (Go.Sort.grow (w.drewN q) os).cell? ⟨p, 0, none⟩ = some (.slice (some ⟨g, 0, none⟩) room room) := fun q os => (HL.out.at'.grn (grn_at w q os)).c0
        have K1 : ∀ q os, (Go.Sort.grow (w.drewN q) os).cell? ⟨p, 1, none⟩ = some (.map (some b)) := fun q os => (HL.out.at'.grn (grn_at w q os)).c1
        have K2 : ∀ q os ty, (Builtin.len_ #[44] ty #[.map (some b)]).run Try.prog (Go.Sort.grow (w.drewN q) os) = .ok (.int .i64 (n : Int)) (Go.Sort.grow (w.drewN q) os) := fun q os ty => (HL.out.at'.grn (grn_at w q os)).map.len ty
        have mx := mixed
        go_enter Try.func12, Try.ntmps12
        go_wp2_with (at_lookup; refine wp_look_none _ rfl (.tmp 17) (.tmp 18) 44 rfl Try.underlying44 b n F rfl HL.out.at'.map.f s rfl zs FS.out ?_)
        go_quiet_grown (fail)
        have HL1 : Hid (HevL (Go.Sort.grow (w.drewN nq) osq) Bd p g b room n a F m) := HL.out.grn (grn_at w nq osq)
        have BE1 : Hid (Below Bd w (Go.Sort.grow (w.drewN nq) osq)) := (grn_at w nq osq).below.mono hbd
        have OT1 : Hid (Oth p g b w (Go.Sort.grow (w.drewN nq) osq)) := Oth.since (grn_at w nq osq).below
        have LL := hid (LS.out _ (grn_at w nq osq))
        clear K0 K1 K2 mx k1 HL
        generalize Go.Sort.grow (w.drewN nq) osq = u1 at HL1 BE1 OT1 LL ⊢
        go_wp2_with fail
        refine LL.out.mono ?_
        rintro e v1 ⟨rfl, b1⟩
        have HL2 : Hid (HevL v1 Bd p g b room n a F m) := ⟨HL1.out.at'.since b1, HL1.out.pl, HL1.out.holds, HL1.out.keys⟩
        have BE2 : Hid (Below Bd w v1) := BE1.out.trans (b1.mono (by have := BE1.out.size; omega))
        have OT2 : Hid (Oth p g b w v1) := OT1.out.trans (Oth.since b1)
        clear b1 HL1 BE1 OT1 LL
        go_wp2_with fail
        go_ret
        have BA := bel_alloc v1 (.cells #[.string s0, .int .i64 c0] 30)
        exact ⟨rfl, ⟨n, a, F, ⟨HL2.out.at'.since BA, HL2.out.pl, HL2.out.holds, HL2.out.keys⟩, HF.out⟩, BE2.out.trans (BA.mono (by have := BE2.out.size; omega)), OT2.out.trans (Oth.since BA)⟩
end Go.Proofs.Ytejdfahokbheoaa
