
/-
  HeavyPlays, over the heap's contracts: whatever is offered, what is there, as it stands, is what the document says.
-/
import Derived.Test.YtejdfahokbheoaaHevCtr
import Derived.Test.YtejdfahokbheoaaHevRPut
namespace Go.Proofs.Ytejdfahokbheoaa
open Go.RowKit Hv Go.Deep
set_option linter.unusedVariables false
set_option linter.unusedSimpArgs false

set_option maxHeartbeats 6400000 in
set_option maxRecDepth 20000 in
theorem plays_walk {HP : HPT} (C : Ctr HP) (room : Int) (lv : Value) (l : List Itm) (w : World) (hr : i64 room) (h : ItemsL w lv l) : Calls Try.prog 3 #[.int .i64 room, lv] w fun e w' => e = .returned (.bool true) ∧ Below w.heap.size w w' := by
  have HI0 : Hid (ItemsL w lv l) := h
  have HI1 : Hid (∀ w1, Below w.heap.size w w1 → ItemsL w1 lv l) := fun w1 b1 => ⟨h.1.keep (keep_of_below b1), h.2⟩
  obtain ⟨hI, hln, hlk⟩ := h
  have FW : Hid (∀ w1, Below w.heap.size w w1 → Calls Try.prog 8 #[lv] w1 (TellsW w1 (FewL l))) := fun w1 b1 => hfew_any w1 lv l (hI.keep (keep_of_below b1)) hln fun i x e => (hlk i x e).1
  go_enter Try.func3, Try.ntmps3
  go_wp2_with fail
  refine (FW.out w (Below.refl _ _)).mono ?_
  rintro e u0 ⟨B, rfl, hB, rfl⟩
  cases B with
  | false =>
    go_wp2_with fail
    refine (hawake_any C u0).mono ?_
    rintro e u3 ⟨rfl, b3⟩
    go_wp2_with fail
    go_ret
    exact ⟨rfl, b3⟩
  | true =>
  have HF : Hid (l.length ≤ 150) := (hB.1 rfl).1
  clear hB FW
  by_cases hroom : 1 ≤ room ∧ room ≤ 64
  rotate_left
  · have OB := hid fun u1 (b : Below u0.heap.size u0 u1) => C.of_bad u1 room lv l (HI1.out u1 b) hr (by omega)
    go_wp2_with fail
    refine (C.new_bad u0 room hr (by omega)).mono ?_
    rintro e u1 ⟨rfl, b1⟩
    have BE1 := hid b1
    clear b1
    by_cases lo : room < 1
    · go_wp2_with fail
      refine (OB.out u1 BE1.out).mono ?_
      rintro e u2 ⟨rfl, b2⟩
      have BE2 := hid (bel_trans BE1.out b2)
      clear b2
      go_wp2_with fail
      refine (hawake_any C u2).mono ?_
      rintro e u3 ⟨rfl, b3⟩
      go_wp2_with fail
      go_ret
      exact ⟨rfl, bel_trans BE2.out b3⟩
    · have hi : room > 64 := by omega
      go_wp2_with fail
      refine (OB.out u1 BE1.out).mono ?_
      rintro e u2 ⟨rfl, b2⟩
      have BE2 := hid (bel_trans BE1.out b2)
      clear b2
      go_wp2_with fail
      refine (hawake_any C u2).mono ?_
      rintro e u3 ⟨rfl, b3⟩
      go_wp2_with fail
      go_ret
      exact ⟨rfl, bel_trans BE2.out b3⟩
  obtain ⟨R, rfl⟩ : ∃ R : Nat, room = (R : Int) := ⟨room.toNat, by omega⟩
  have r1 : 1 ≤ R := by omega
  have r2 : R ≤ 64 := by omega
  have rlo : ¬ (R : Int) < 1 := by omega
  have rhi : ¬ (R : Int) > 64 := by omega
  have OF := hid fun u1 (b : Below u0.heap.size u0 u1) => C.of_ok u1 R lv l (HI1.out u1 b) r1 r2
  obtain ⟨A, cap, b, o, rfl, hc, h3, h4⟩ := hI
  have H3 : Hid (0 < l.length → A = some ⟨b, o, none⟩) := h3
  have H4 : Hid (∀ i x, l[i]? = some x → u0.cell? ⟨b, o + i * 2, none⟩ = some (.string x.k) ∧ u0.cell? ⟨b, o + i * 2 + 1, none⟩ = some (.int .i64 x.c)) := h4
  have HK0 : Hid (∀ (i : Nat) (x : Itm), l[i]? = some x → x.k.size ≤ 9223372036854775807 ∧ i64 x.c) := hlk
  obtain ⟨n, hn⟩ : ∃ n, n = l.length := ⟨_, rfl⟩
  have HN : Hid (n = l.length) := hn
  rw [← hn] at hc hln HF OF ⊢
  have n150 : n ≤ 150 := HF.out
  clear h3 h4 hn hlk hroom hr HI0 HI1 HF
  go_wp2_with fail
  refine (C.new_ok u0 R r1 r2).mono ?_
  rintro e u1 ⟨v, D1, rfl, H1, b1⟩
  have HP1 := hid H1
  have BE1 := hid b1
  obtain ⟨p, rfl⟩ := C.ptr H1
  clear H1 b1
  go_wp2_with fail
  go_loopg [6, 42] n (fun gk sv i wr => ∃ (k : Nat) (D : Nat → Prop) (v : Value), (gk = n - k ∧ k ≤ n ∧ HP wr u0.heap.size (.pointer (some ⟨p, 0, none⟩)) R (offersL R (itq l) k) D ∧ Below u0.heap.size u0 wr ∧ Held (fun q => ¬ D q) (fun u => ItsL u v (offersL R (itq l) k)) wr) ∧ v = sv ∧ i = .int .i64 (k : Int))
  case atStart => exact ⟨0, D1, _, ⟨rfl, by omega, HP1.out, BE1.out, fun u _ => its_none u⟩, rfl, rfl⟩
  case round =>
    obtain ⟨wo, rfl⟩ : ∃ wo, wo = wr := ⟨_, rfl⟩
    obtain ⟨k, D, v, ⟨hg, hk, hH, hBl, hM⟩, rfl, rfl⟩ := hrel
    have HK : Hid (gk = n - k) := hg
    have HH : Hid (HP wo u0.heap.size (.pointer (some ⟨p, 0, none⟩)) R (offersL R (itq l) k) D) := hH
    have BL : Hid (Below u0.heap.size u0 wo) := hBl
    have HM : Hid (Held (fun q => ¬ D q) (fun u => ItsL u v (offersL R (itq l) k)) wo) := hM
    by_cases hz : k < n
    · obtain rfl := H3.out (by rw [← HN.out]; omega)
      obtain ⟨x, hx⟩ : ∃ x, l[k]? = some x := ⟨_, List.getElem?_eq_getElem (by rw [← HN.out]; exact hz)⟩
      obtain ⟨c1, c2⟩ := H4.out k x hx
      have hk0 := HK0.out k x hx
      obtain ⟨s, c⟩ := x
      simp only at c1 c2 hk0
      have c1 : wo.cell? ⟨b, o + k * 2, none⟩ = some (.string s) := keep_of_below hBl _ _ c1
      have c2 : wo.cell? ⟨b, o + k * 2 + 1, none⟩ = some (.int .i64 c) := keep_of_below hBl _ _ c2
      have HX : Hid (itq l k = ⟨s, c⟩ ∧ s.size ≤ 9223372036854775807 ∧ i64 c) := ⟨itq_at hx, hk0⟩
      have bk : (k : Int) < (n : Int) := by omega
      have bk0 : (0 : Int) ≤ (k : Int) := by omega
      have zo := hBl.size
      clear hg hH hBl hM hx hk0
      go_wp2_with fail
      have KX : Hid (Blk (wo.alloc (.cells #[.string s, .int .i64 c] 30)) wo.heap.size 30 #[.string s, .int .i64 c]) := Blk.new _ _ _
      have BX : Hid (Below wo.heap.size wo (wo.alloc (.cells #[.string s, .int .i64 c] 30))) := bel_alloc _ _
      clear c1 c2
      generalize wo.alloc (.cells #[.string s, .int .i64 c] 30) = wx at KX BX ⊢
      have HHX : Hid (HP wx u0.heap.size (.pointer (some ⟨p, 0, none⟩)) R (offersL R (itq l) k) D) := C.since HH.out BX.out
      have HMX : Hid (Held (fun q => ¬ D q ∧ q < wx.heap.size) (fun u => ItsL u v (offersL R (itq l) k)) wx) := (HM.out.since BX.out).mono fun q hq d => ⟨d, hq⟩
      refine (C.offer wx _ _ R _ D s c HHX.out (by have := BX.out.size; omega) HX.out.2.1 HX.out.2.2).mono ?_
      rintro e u4 ⟨rfl, D4, h4, b4, s4, d4⟩
      have ON : Hid (offersL R (itq l) (k + 1) = (offerL R (offersL R (itq l) k) s c).1) := by
        show (offerL R (offersL R (itq l) k) (itq l k).k (itq l k).c).1 = _
        rw [HX.out.1]
      have HQ : Hid (HP u4 u0.heap.size (.pointer (some ⟨p, 0, none⟩)) R (offersL R (itq l) (k + 1)) D4) := by
        show HP _ _ _ _ _ _
        rw [ON.out]
        exact h4
      have BQ : Hid (Below u0.heap.size u0 u4) := (bel_trans BL.out BX.out).trans b4
      have HMQ : Hid (Held (fun q => ¬ D4 q) (fun u => ItsL u v (offersL R (itq l) k)) u4) := (Held.same HMX.out (s4.mono fun q _ d => d.1)).mono fun q _ d e => by
        rcases d4 q e with f | f
        · exact d.1 f
        · have := d.2; omega
      have nX : ¬ D wo.heap.size := fun d => by have := (C.own HH.out _ d).2; omega
      have KQ : Hid (Blk u4 wo.heap.size 30 #[.string s, .int .i64 c]) := KX.out.of (s4.2 _ nX KX.out.lt)
      clear h4 b4 s4 d4 nX HH HM HHX HMX KX BX
      obtain ⟨bq, hbq⟩ : ∃ bq, bq = (offerL R (offersL R (itq l) k) s c).2 := ⟨_, rfl⟩
      have HBQ : Hid (bq = (offerL R (offersL R (itq l) k) s c).2) := hbq
      rw [← hbq]
      clear hbq
      have x0 : u4.cell? ⟨wo.heap.size, 0, none⟩ = some (.string s) := KQ.out.cell 0
      have x1 : u4.cell? ⟨wo.heap.size, 1, none⟩ = some (.int .i64 c) := KQ.out.cell 1
      go_wp2_with fail
      refine (hoffer_any u4 v _ R s c (Held.at HMQ.out) (by have := offers_length r1 (itq l) k; omega) r1 (by omega)).mono ?_
      rintro e u5 ⟨mv, rfl, lm, b5⟩
      rw [← HBQ.out]
      have HM5 : Hid (Held (fun q => ¬ D4 q) (fun u => ItsL u mv (offersL R (itq l) (k + 1))) u5) := by
        show Held _ _ _
        rw [ON.out]
        exact lm _ (fun q hq d => by have := (C.own HQ.out q d).2; omega) HMQ.out
      have H5 : Hid (HP u5 u0.heap.size (.pointer (some ⟨p, 0, none⟩)) R (offersL R (itq l) (k + 1)) D4) := C.since HQ.out b5
      have B5 : Hid (Below u0.heap.size u0 u5) := bel_trans BQ.out b5
      have K5 : Hid (Blk u5 wo.heap.size 30 #[.string s, .int .i64 c]) := KQ.out.since b5
      clear lm b5 HMQ HQ BQ KQ ON HBQ x0 x1
      obtain ⟨m, hm⟩ : ∃ m, m = offersL R (itq l) (k + 1) := ⟨_, rfl⟩
      have EM : Hid (m = offersL R (itq l) (k + 1)) := hm
      have mR : m.length ≤ R := by rw [hm]; exact offers_length r1 _ _
      have m0 : 0 < m.length := by rw [hm]; exact offers_pos r1 _ _ (by omega)
      rw [← hm] at HM5 H5
      clear hm
      have bb : (bq != bq) = false := by simp
      have bb2 : (bq == bq) = true := by simp
      obtain ⟨A5, cap5, b5, o5, rfl, hc5, y3, y4⟩ := Held.at HM5.out
      obtain rfl := y3 m0
      obtain ⟨M, hM⟩ : ∃ M, M = m.length := ⟨_, rfl⟩
      have EL : Hid (M = m.length) := hM
      rw [← hM] at hc5 mR m0 HM5 ⊢
      obtain ⟨j, rfl⟩ : ∃ j, M = j + 1 := ⟨M - 1, by omega⟩
      obtain ⟨z, hz2⟩ : ∃ z, m[j]? = some z := ⟨_, List.getElem?_eq_getElem (by omega)⟩
      have hz3 : m.getLast? = some z := by rw [List.getLast?_eq_getElem?, ← hM, Nat.add_sub_cancel, hz2]
      have CE : Hid (u5.cell? ⟨b5, o5 + j * 2, none⟩ = some (.string z.k) ∧ u5.cell? ⟨b5, o5 + j * 2 + 1, none⟩ = some (.int .i64 z.c)) := y4 _ z hz2
      have LZ : Hid (m.getLast? = some z) := hz3
      obtain ⟨zk, zc⟩ := z
      clear y3 y4 hM hz2 hz3
      go_wp2_with fail
      refine (C.check u5 _ _ R _ D4 H5.out).mono ?_
      rintro e u6 ⟨rfl, b6⟩
      have B6 := hid b6
      clear b6
      go_wp2_with fail
      refine (C.len u6 _ _ R _ D4 (C.since H5.out B6.out)).mono ?_
      rintro e u7 ⟨rfl, b7⟩
      have B7 := hid (bel_trans B6.out b7)
      clear b7
      rw [← EL.out]
      go_wp2_with fail
      refine (C.list u7 _ _ R _ D4 (C.since H5.out B7.out)).mono ?_
      rintro e u8 ⟨nv, rfl, n8, b8⟩
      have B8 := hid (bel_trans B7.out b8)
      have N8 := hid n8.its
      clear n8 b8
      go_wp2_with fail
      refine (hsame_any u8 nv _ m m N8.out (Held.at (HM5.out.since B8.out)) (by rw [← EL.out]; omega) (by rw [← EL.out]; omega)).mono ?_
      rintro e u9 ⟨B9, rfl, e9, b9⟩
      obtain rfl : B9 = true := e9.2 rfl
      have B9 := hid (bel_trans B8.out b9)
      clear b9 e9
      go_wp2_with fail
      refine (C.last_some u9 _ _ R _ D4 _ (C.since H5.out B9.out) LZ.out).mono ?_
      rintro e ua ⟨rfl, ba⟩
      have BA := hid (bel_trans B9.out ba)
      clear ba
      go_wp2_with fail
      have KZ : Hid (Blk (ua.alloc (.cells #[.string zk, .int .i64 zc] 30)) ua.heap.size 30 #[.string zk, .int .i64 zc]) := Blk.new _ _ _
      have BZ : Hid (Below u5.heap.size u5 (ua.alloc (.cells #[.string zk, .int .i64 zc] 30))) := bel_trans BA.out (bel_alloc _ _)
      generalize ua.alloc (.cells #[.string zk, .int .i64 zc] 30) = wz at KZ BZ ⊢
      have z0 : wz.cell? ⟨ua.heap.size, 0, none⟩ = some (.string zk) := KZ.out.cell 0
      have z1 : wz.cell? ⟨ua.heap.size, 1, none⟩ = some (.int .i64 zc) := KZ.out.cell 1
      have t0 : wz.cell? ⟨b5, o5 + j * 2, none⟩ = some (.string zk) := keep_of_below BZ.out _ _ CE.out.1
      have t1 : wz.cell? ⟨b5, o5 + j * 2 + 1, none⟩ = some (.int .i64 zc) := keep_of_below BZ.out _ _ CE.out.2
      have x0 : wz.cell? ⟨wo.heap.size, 0, none⟩ = some (.string s) := (K5.out.since BZ.out).cell 0
      have x1 : wz.cell? ⟨wo.heap.size, 1, none⟩ = some (.int .i64 c) := (K5.out.since BZ.out).cell 1
      have wj : IntKind.i64.wrap (j : Int) = (j : Int) := by rw [IntKind.wrap_i64]; omega
      have bj0 : (0 : Int) ≤ (j : Int) := by omega
      have bj1 : (j : Int) < (j : Int) + 1 := by omega
      have bj : (j : Int) < ((j + 1 : Nat) : Int) := by omega
      go_quiet (fail)
      go_wp2_with fail
      refine (C.get _ _ _ R _ D4 s (C.since H5.out (below_drewN BZ.out nq)) HX.out.2.1).mono ?_
      rintro e ub ⟨rfl, bb3⟩
      have BB := hid (bel_trans (below_drewN BZ.out nq) bb3)
      clear bb3 z0 z1 t0 t1 x0 x1
      have x0 : ub.cell? ⟨wo.heap.size, 0, none⟩ = some (.string s) := (K5.out.since BB.out).cell 0
      have x1 : ub.cell? ⟨wo.heap.size, 1, none⟩ = some (.int .i64 c) := (K5.out.since BB.out).cell 1
      go_wp2_with fail
      refine (hget_any ub _ m s (Held.at (HM5.out.since BB.out)) (by rw [← EL.out]; omega)).mono ?_
      rintro e uc ⟨rfl, rfl⟩
      generalize (getL m s).isSome = b1
      generalize (getL m s).getD 0 = g1
      have e1 : (g1 != g1) = false := by simp
      have e2 : (b1 != b1) = false := by simp
      go_wp2_with fail
      go_roundg (n - (k + 1))
      case measure => have := HK.out; omega
      case rel => exact ⟨k + 1, D4, _, ⟨rfl, by omega, by rw [← EM.out]; exact C.since H5.out BB.out, bel_trans B5.out BB.out, by rw [← EM.out]; exact HM5.out.since BB.out⟩, rfl, by go_num⟩
    · have bk : ¬ (k : Int) < (n : Int) := by omega
      have ek : k = n := by omega
      subst ek
      have mR := offers_length r1 (itq l) k
      have HLN : Hid ((offersL R (itq l) k).length ≤ R) := mR
      clear hg hH hBl hM mR
      go_wp2_with fail
      refine (OF.out wo BL.out).mono ?_
      rintro e u2 ⟨ov, D2, rfl, H2, b2⟩
      have HP2 := hid H2
      have BE2 := hid b2
      obtain ⟨p2, rfl⟩ := C.ptr H2
      clear H2 b2
      go_wp2_with fail
      refine (C.list u2 _ _ R _ D2 HP2.out).mono ?_
      rintro e u3 ⟨nv, rfl, n3, b3⟩
      have N3 := hid n3.its
      have B3 := hid (bel_trans BE2.out b3)
      clear n3 b3
      go_wp2_with fail
      refine (hsame_any u3 nv _ _ _ N3.out (Held.at (HM.out.since B3.out)) (by have := HLN.out; omega) (by have := HLN.out; omega)).mono ?_
      rintro e u9 ⟨B9, rfl, e9, b9⟩
      obtain rfl : B9 = true := e9.2 rfl
      have B9 := hid (bel_trans B3.out b9)
      clear b9 e9
      go_wp2_with fail
      refine (hawake_any C u9).mono ?_
      rintro e u5 ⟨rfl, b5⟩
      go_wp2_with fail
      go_ret
      exact ⟨rfl, bel_trans BL.out (bel_trans B9.out b5)⟩
end Go.Proofs.Ytejdfahokbheoaa
