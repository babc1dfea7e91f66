
/-
  HeavyTop, over the heap's contracts: of keys that are offered once each those that are there have the greatest counts.
-/
import Derived.Test.YtejdfahokbheoaaHevCtr
import Derived.Test.YtejdfahokbheoaaHevRPut
namespace Go.Proofs.Ytejdfahokbheoaa
open Go.RowKit Hv Go.Deep
set_option linter.unusedVariables false

def UpTo (q : Nat → Itm) (k : Nat) : Prop := ∀ i j, i < k → j < k → (q i).k = (q j).k → i = j
theorem upTo_more {q : Nat → Itm} {k : Nat} (h : UpTo q k) (n : ∀ j, j < k → (q j).k ≠ (q k).k) : UpTo q (k + 1) := fun i j hi hj e => by
  by_cases a : i = k <;> by_cases b : j = k
  · omega
  · subst a; exact absurd e.symm (n j (by omega))
  · subst b; exact absurd e (n i (by omega))
  · exact h i j (by omega) (by omega) e
theorem top_says {room n : Nat} (r1 : 1 ≤ room) {q : Nat → Itm} (u : UpTo q n) : (offersL room q n).length = min n room ∧ ((n = 0 ∧ offersL room q n = []) ∨ (0 < n ∧ ∃ z, (offersL room q n).getLast? = some z ∧ ∀ i, i < n → getL (offersL room q n) (q i).k = none → (q i).c ≤ z.c)) := by
  obtain ⟨h1, h2, h3⟩ := offers_top r1 q n u
  refine ⟨h1, ?_⟩
  by_cases n0 : n = 0
  · exact Or.inl ⟨n0, by subst n0; rfl⟩
  · refine Or.inr ⟨by omega, ?_⟩
    have hne : offersL room q n ≠ [] := fun e => by rw [e] at h1; simp at h1; omega
    refine ⟨_, List.getLast?_eq_some_getLast hne, fun i hi g => ?_⟩
    have nm : q i ∉ offersL room q n := fun m => by
      rw [getL_some (offers_stands room q n) m] at g
      cases g
    have e := (h3 i hi nm).1
    unfold lastC at e
    rw [List.getLast?_eq_some_getLast hne] at e
    exact e
set_option maxHeartbeats 6400000 in
set_option maxRecDepth 20000 in
theorem top_walk {HP : HPT} (C : Ctr HP) (room : Int) (lv : Value) (l : List Itm) (w : World) (hr : i64 room) (h : ItemsL w lv l) : Calls Try.prog 5 #[.int .i64 room, lv] w fun e w' => e = .returned (.bool true) ∧ Below w.heap.size w w' := by
  obtain ⟨hI, hln, hlk⟩ := h
  have FW : Hid (∀ w1, Below w.heap.size w w1 → Calls Try.prog 8 #[lv] w1 (TellsW w1 (FewL l))) := fun w1 b1 => hfew_any w1 lv l (hI.keep (keep_of_below b1)) hln fun i x e => (hlk i x e).1
  by_cases hroom : 1 ≤ room ∧ room ≤ 64
  rotate_left
  · go_enter Try.func5, Try.ntmps5
    go_wp2_with fail
    refine (C.new_bad w room hr (by omega)).mono ?_
    rintro e u1 ⟨rfl, b1⟩
    have BE1 := hid b1
    clear b1
    by_cases lo : room < 1
    · go_wp2_with fail
      refine (hawake_any C u1).mono ?_
      rintro e u2 ⟨rfl, b2⟩
      go_wp2_with fail
      go_ret
      exact ⟨rfl, bel_trans BE1.out b2⟩
    · have hi : room > 64 := by omega
      go_wp2_with fail
      refine (hawake_any C u1).mono ?_
      rintro e u2 ⟨rfl, b2⟩
      go_wp2_with fail
      go_ret
      exact ⟨rfl, bel_trans BE1.out b2⟩
  obtain ⟨R, rfl⟩ : ∃ R : Nat, room = (R : Int) := ⟨room.toNat, by omega⟩
  have r1 : 1 ≤ R := by omega
  have r2 : R ≤ 64 := by omega
  have hI0 := hI
  obtain ⟨A, cap, b, o, rfl, hc, h3, h4⟩ := hI
  have H3 : Hid (0 < l.length → A = some ⟨b, o, none⟩) := h3
  have H4 : Hid (∀ i x, l[i]? = some x → w.cell? ⟨b, o + i * 2, none⟩ = some (.string x.k) ∧ w.cell? ⟨b, o + i * 2 + 1, none⟩ = some (.int .i64 x.c)) := h4
  have HK0 : Hid (∀ (i : Nat) (x : Itm), l[i]? = some x → x.k.size ≤ 9223372036854775807 ∧ i64 x.c) := hlk
  obtain ⟨n, hn⟩ : ∃ n, n = l.length := ⟨_, rfl⟩
  have HN : Hid (n = l.length) := hn
  rw [← hn] at hc hln FW ⊢
  clear h3 h4 hn hI0 hlk hroom hr
  go_enter Try.func5, Try.ntmps5
  go_wp2_with fail
  refine (C.new_ok w R r1 r2).mono ?_
  rintro e u1 ⟨v, D1, rfl, H1, b1⟩
  have HP1 := hid H1
  have BE1 := hid b1
  obtain ⟨p, rfl⟩ := C.ptr H1
  clear H1 b1
  go_wp2_with fail
  refine (FW.out u1 BE1.out).mono ?_
  rintro e u2 ⟨B, rfl, hB, rfl⟩
  cases B with
  | false =>
    go_wp2_with fail
    refine (hawake_any C u2).mono ?_
    rintro e u3 ⟨rfl, b3⟩
    go_wp2_with fail
    go_ret
    exact ⟨rfl, bel_trans BE1.out b3⟩
  | true =>
  have n150 : n ≤ 150 := by rw [HN.out]; exact (hB.1 rfl).1
  clear hB FW
  go_wp2_with fail
  go_loopg [40] n (fun gk i wr => ∃ (k : Nat) (D : Nat → Prop), (gk = n - k ∧ k ≤ n ∧ HP wr w.heap.size (.pointer (some ⟨p, 0, none⟩)) R (offersL R (itq l) k) D ∧ Below w.heap.size w wr ∧ UpTo (itq l) k) ∧ i = .int .i64 (k : Int))
  case atStart => exact ⟨0, D1, ⟨rfl, by omega, HP1.out, BE1.out, fun i j hi => by omega⟩, rfl⟩
  case round =>
    obtain ⟨wo, rfl⟩ : ∃ wo, wo = wr := ⟨_, rfl⟩
    obtain ⟨k, D, ⟨hg, hk, hH, hBl, hU⟩, rfl⟩ := hrel
    have HK : Hid (gk = n - k ∧ UpTo (itq l) k) := ⟨hg, hU⟩
    have HH : Hid (HP wo w.heap.size (.pointer (some ⟨p, 0, none⟩)) R (offersL R (itq l) k) D) := hH
    have BL : Hid (Below w.heap.size w wo) := hBl
    by_cases hz : k < n
    · obtain rfl := H3.out (by rw [← HN.out]; omega)
      obtain ⟨x, hx⟩ : ∃ x, l[k]? = some x := ⟨_, List.getElem?_eq_getElem (by rw [← HN.out]; exact hz)⟩
      obtain ⟨c1, c2⟩ := H4.out k x hx
      have hk0 := HK0.out k x hx
      obtain ⟨s, c⟩ := x
      simp only at c1 c2 hk0
      have c1 : wo.cell? ⟨b, o + k * 2, none⟩ = some (.string s) := keep_of_below hBl _ _ c1
      have c2 : wo.cell? ⟨b, o + k * 2 + 1, none⟩ = some (.int .i64 c) := keep_of_below hBl _ _ c2
      have HX : Hid (l[k]? = some ⟨s, c⟩ ∧ s.size ≤ 9223372036854775807 ∧ i64 c) := ⟨hx, hk0⟩
      have bk : (k : Int) < (n : Int) := by omega
      have bk0 : (0 : Int) ≤ (k : Int) := by omega
      have bkc : (k : Int) ≤ (cap : Int) := by omega
      clear hg hH hBl hU hx hk0
      go_wp2_with fail
      have KX : Hid (Blk (wo.alloc (.cells #[.string s, .int .i64 c] 30)) wo.heap.size 30 #[.string s, .int .i64 c]) := Blk.new _ _ _
      have BX : Hid (Below wo.heap.size wo (wo.alloc (.cells #[.string s, .int .i64 c] 30))) := bel_alloc _ _
      clear c1 c2
      generalize wo.alloc (.cells #[.string s, .int .i64 c] 30) = wx at KX BX ⊢
      go_loopg [49] k (fun gk i wr => ∃ c : Nat, (gk = k - c ∧ c ≤ k ∧ (∀ j, j < c → (itq l j).k ≠ s) ∧ Below wx.heap.size wx wr) ∧ i = .int .i64 (c : Int))
      case atStart => exact ⟨0, ⟨rfl, by omega, fun j hj => by omega, Below.refl _ _⟩, rfl⟩
      case round =>
        obtain ⟨c9, ⟨hg, hc9, hP, hB9⟩, rfl⟩ := hrel
        have HK9 : Hid (gk = k - c9 ∧ (∀ j, j < c9 → (itq l j).k ≠ s)) := ⟨hg, hP⟩
        have BW : Hid (Below w.heap.size w wr) := bel_trans (bel_trans BL.out BX.out) hB9
        have KW : Hid (Blk wr wo.heap.size 30 #[.string s, .int .i64 c]) := KX.out.since hB9
        have BI : Hid (Below wx.heap.size wx wr) := hB9
        have x0 : wr.cell? ⟨wo.heap.size, 0, none⟩ = some (.string s) := KW.out.cell 0
        have x1 : wr.cell? ⟨wo.heap.size, 1, none⟩ = some (.int .i64 c) := KW.out.cell 1
        have lx := KW.out.lt
        by_cases hz9 : c9 < k
        · obtain ⟨y, hy⟩ : ∃ y, l[c9]? = some y := ⟨_, List.getElem?_eq_getElem (by rw [← HN.out]; omega)⟩
          obtain ⟨d1, d2⟩ := H4.out c9 y hy
          obtain ⟨t, d⟩ := y
          simp only at d1 d2
          have d1 : wr.cell? ⟨b, o + c9 * 2, none⟩ = some (.string t) := keep_of_below BW.out _ _ d1
          have d2 : wr.cell? ⟨b, o + c9 * 2 + 1, none⟩ = some (.int .i64 d) := keep_of_below BW.out _ _ d2
          have HY : Hid (itq l c9 = ⟨t, d⟩) := itq_at hy
          have bj : (c9 : Int) < (k : Int) := by omega
          have bj0 : (0 : Int) ≤ (c9 : Int) := by omega
          clear hg hP hB9 hy
          by_cases e : t = s
          · have q : (t.toList == s.toList) = true := by rw [str_eq, decide_eq_true e]
            clear e
            go_wp2_with fail
            refine (hawake_any C _).mono ?_
            rintro e u4 ⟨rfl, b4⟩
            go_wp2_with fail
            go_ret
            exact ⟨rfl, bel_trans (bel_trans BW.out (bel_alloc _ _)) b4⟩
          · have q : (t.toList == s.toList) = false := by rw [str_eq, decide_eq_false e]
            have HE : Hid (t ≠ s) := e
            clear e
            go_wp2_with fail
            go_roundg (k - (c9 + 1))
            case measure => have := HK9.out.1; omega
            case rel =>
              refine ⟨c9 + 1, ⟨rfl, by omega, fun j hj => ?_, bel_trans BI.out (bel_alloc _ _)⟩, by go_num⟩
              by_cases ej : j = c9
              · subst ej; rw [HY.out]; exact HE.out
              · exact HK9.out.2 j (by omega)
        · have bj : ¬ (c9 : Int) < (k : Int) := by omega
          have e9 : c9 = k := by omega
          subst e9
          have HA : Hid (HP wr w.heap.size (.pointer (some ⟨p, 0, none⟩)) R (offersL R (itq l) c9) D) := C.since HH.out (bel_trans BX.out hB9)
          have NW : Hid (∀ j, j < c9 → (itq l j).k ≠ s) := hP
          clear hg hP hB9
          go_wp2_with fail
          refine (C.offer wr _ _ R _ D s c HA.out (BW.out.size) HX.out.2.1 HX.out.2.2).mono ?_
          rintro e u4 ⟨rfl, D4, h4, b4, _, _⟩
          have HQ : Hid (HP u4 w.heap.size (.pointer (some ⟨p, 0, none⟩)) R (offersL R (itq l) (c9 + 1)) D4) := by
            show HP _ _ _ _ (offerL R (offersL R (itq l) c9) (itq l c9).k (itq l c9).c).1 _
            rw [itq_at HX.out.1]
            exact h4
          have BQ : Hid (Below w.heap.size w u4) := BW.out.trans b4
          clear h4 b4
          go_wp2_with fail
          go_roundg (n - (c9 + 1))
          case measure => have := HK.out.1; omega
          case rel => exact ⟨c9 + 1, D4, ⟨rfl, by omega, HQ.out, BQ.out, upTo_more HK.out.2 fun j hj => by rw [itq_at HX.out.1]; exact NW.out j hj⟩, by go_num⟩
    · have bk : ¬ (k : Int) < (n : Int) := by omega
      have en : k = n := by omega
      subst en
      obtain ⟨t1, t2⟩ := top_says r1 hU
      have LN : Hid ((offersL R (itq l) k).length = min k R) := t1
      obtain ⟨zk, zc, ok, LC, FT, HO⟩ : ∃ (zk : ByteArray) (zc : Int) (ok : Bool), Hid (∀ w1, Below wo.heap.size wo w1 → Calls Try.prog 18 #[.pointer (some ⟨p, 0, none⟩)] w1 fun e w' => e = .returned (.tuple #[.agg #[.string zk, .int .i64 zc], .bool ok]) ∧ Below w1.heap.size w1 w') ∧ Hid (∀ i, i < k → getL (offersL R (itq l) k) (itq l i).k = none → ok = true ∧ (itq l i).c ≤ zc) ∧ Hid ((k = 0 ∧ ok = false) ∨ (0 < k ∧ ok = true)) := by
        rcases t2 with ⟨n0, e0⟩ | ⟨n0, z, hz, hc⟩
        · exact ⟨⟨#[]⟩, 0, false, fun w1 b1 => C.last_none w1 _ _ R _ D (C.since hH b1) e0, fun i hi => by omega, Or.inl ⟨n0, rfl⟩⟩
        · exact ⟨z.k, z.c, true, fun w1 b1 => C.last_some w1 _ _ R _ D z (C.since hH b1) hz, fun i hi g => ⟨rfl, hc i hi g⟩, Or.inr ⟨n0, rfl⟩⟩
      clear hg hH hBl hU t1 t2
      go_wp2_with fail
      refine (LC.out wo (Below.refl _ _)).mono ?_
      rintro e u3 ⟨rfl, b3⟩
      have BE3 := hid b3
      clear b3
      go_wp2_with fail
      have KZ : Hid (Blk (u3.alloc (.cells #[.string zk, .int .i64 zc] 30)) u3.heap.size 30 #[.string zk, .int .i64 zc]) := Blk.new _ _ _
      have BZ : Hid (Below wo.heap.size wo (u3.alloc (.cells #[.string zk, .int .i64 zc] 30))) := bel_trans BE3.out (bel_alloc _ _)
      generalize u3.alloc (.cells #[.string zk, .int .i64 zc] 30) = wz at KZ BZ ⊢
      go_loopg [74] k (fun gk i wr => ∃ c : Nat, (gk = k - c ∧ c ≤ k ∧ Below wz.heap.size wz wr) ∧ i = .int .i64 (c : Int))
      case atStart => exact ⟨0, ⟨rfl, by omega, Below.refl _ _⟩, rfl⟩
      case round =>
        obtain ⟨c9, ⟨hg, hc9, hB9⟩, rfl⟩ := hrel
        have HK9 : Hid (gk = k - c9) := hg
        have BI : Hid (Below wz.heap.size wz wr) := hB9
        have BR : Hid (Below wo.heap.size wo wr) := bel_trans BZ.out hB9
        have BW : Hid (Below w.heap.size w wr) := bel_trans BL.out BR.out
        have KW : Hid (Blk wr u3.heap.size 30 #[.string zk, .int .i64 zc]) := KZ.out.since hB9
        by_cases hz9 : c9 < k
        · obtain rfl := H3.out (by rw [← HN.out]; omega)
          obtain ⟨y, hy⟩ : ∃ y, l[c9]? = some y := ⟨_, List.getElem?_eq_getElem (by rw [← HN.out]; omega)⟩
          obtain ⟨d1, d2⟩ := H4.out c9 y hy
          have hk0 := HK0.out c9 y hy
          obtain ⟨t, d⟩ := y
          simp only at d1 d2 hk0
          have d1 : wr.cell? ⟨b, o + c9 * 2, none⟩ = some (.string t) := keep_of_below BW.out _ _ d1
          have d2 : wr.cell? ⟨b, o + c9 * 2 + 1, none⟩ = some (.int .i64 d) := keep_of_below BW.out _ _ d2
          have HY : Hid (itq l c9 = ⟨t, d⟩ ∧ t.size ≤ 9223372036854775807) := ⟨itq_at hy, hk0.1⟩
          have bj : (c9 : Int) < (k : Int) := by omega
          have bj0 : (0 : Int) ≤ (c9 : Int) := by omega
          clear hg hB9 hy hk0
          go_wp2_with fail
          have KY : Hid (Blk (wr.alloc (.cells #[.string t, .int .i64 d] 30)) wr.heap.size 30 #[.string t, .int .i64 d]) := Blk.new _ _ _
          have BY : Hid (Below wr.heap.size wr (wr.alloc (.cells #[.string t, .int .i64 d] 30))) := bel_alloc _ _
          clear d1 d2
          generalize wr.alloc (.cells #[.string t, .int .i64 d] 30) = wy at KY BY ⊢
          refine (C.get wy _ _ R _ D t (C.since HH.out (bel_trans BR.out BY.out)) HY.out.2).mono ?_
          rintro e u4 ⟨rfl, b4⟩
          have B4 := hid (bel_trans BI.out (bel_trans BY.out b4))
          have x1 : u4.cell? ⟨wr.heap.size, 1, none⟩ = some (.int .i64 d) := (KY.out.since b4).cell 1
          have z1 : u4.cell? ⟨u3.heap.size, 1, none⟩ = some (.int .i64 zc) := (KW.out.since (bel_trans BY.out b4)).cell 1
          clear b4
          have FG := FT.out c9 hz9
          rw [HY.out.1] at FG
          obtain ⟨G, hG⟩ : ∃ G, G = getL (offersL R (itq l) k) t := ⟨_, rfl⟩
          rw [← hG] at FG ⊢
          clear hG
          cases G with
          | some g =>
            simp only [Option.isSome_some, Option.getD_some]
            clear FG
            go_wp2_with fail
            go_roundg (k - (c9 + 1))
            case measure => have := HK9.out; omega
            case rel => exact ⟨c9 + 1, ⟨rfl, by omega, B4.out⟩, by go_num⟩
          | none =>
            simp only [Option.isSome_none, Option.getD_none]
            obtain ⟨rfl, g2⟩ := FG rfl
            have g3 : ¬ d > zc := by simp only at g2; omega
            clear FG g2
            go_wp2_with fail
            go_roundg (k - (c9 + 1))
            case measure => have := HK9.out; omega
            case rel => exact ⟨c9 + 1, ⟨rfl, by omega, B4.out⟩, by go_num⟩
        · have bj : ¬ (c9 : Int) < (k : Int) := by omega
          clear hg hB9
          go_wp2_with fail
          refine (C.len wr _ _ R _ D (C.since HH.out BR.out)).mono ?_
          rintro e u4 ⟨rfl, b4⟩
          have BE4 := hid (bel_trans BW.out b4)
          clear b4
          rw [LN.out]
          have mn : ((min k R : Nat) : Int) = min (k : Int) (R : Int) := by omega
          rw [mn]
          rcases HO.out with ⟨n0, rfl⟩ | ⟨n0, rfl⟩
          · have k0 : ¬ (k : Int) > 0 := by omega
            go_wp2_with fail
            refine (hawake_any C u4).mono ?_
            rintro e u5 ⟨rfl, b5⟩
            go_wp2_with fail
            go_ret
            exact ⟨rfl, bel_trans BE4.out b5⟩
          · have k0 : (k : Int) > 0 := by omega
            go_wp2_with fail
            all_goals
              refine (hawake_any C u4).mono ?_
              rintro e u5 ⟨rfl, b5⟩
              go_wp2_with fail
              go_ret
              exact ⟨rfl, bel_trans BE4.out b5⟩
end Go.Proofs.Ytejdfahokbheoaa
