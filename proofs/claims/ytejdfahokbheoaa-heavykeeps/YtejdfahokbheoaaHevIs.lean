
/-
  The program's heap is what the laws of layer 14 want of it: Of, and all contracts in one.
-/
import Derived.Test.YtejdfahokbheoaaHevList
namespace Go.Proofs.Ytejdfahokbheoaa
open Go.RowKit Hv Go.Deep
set_option linter.unusedVariables false
set_option linter.unusedSimpArgs false

/-- What a heap is in memory. -/
def HPX : HPT := fun w Bd v room m D => ∃ p g b, v = .pointer (some ⟨p, 0, none⟩) ∧ WholeX w Bd p g b room m ∧ ∀ q, D q ↔ Of3 p g b q
/-- A heap that was made. -/
def GaveHp (w : World) (room : Nat) (m : List Itm) (e : Ending) (w' : World) : Prop := ∃ p g b, e = .returned (.pointer (some ⟨p, 0, none⟩)) ∧ WholeX w' w.heap.size p g b room m ∧ Below w.heap.size w w'
set_option maxHeartbeats 1600000 in
theorem of_ok (w : World) (room : Nat) (lv : Value) (l : List Itm) (h : ItemsL w lv l) (r1 : 1 ≤ room) (r64 : room ≤ 64) : Calls Try.prog 11 #[.int .i64 (room : Int), lv] w (GaveHp w room (offersL room (itq l) l.length)) := by
  obtain ⟨⟨A, cap, b0, o0, rfl, hcap, h3, h4⟩, hl, hx⟩ := h
  obtain ⟨n, hn⟩ : ∃ n, n = l.length := ⟨_, rfl⟩
  have HN := hid hn
  have H3 := hid h3
  have H4 := hid h4
  have HX := hid hx
  rw [← hn] at hcap hl ⊢
  clear h3 h4 hx hn
  go_enter Try.func11, Try.ntmps11
  go_wp2_with fail
  refine (new_ok w room r1 r64).mono ?_
  rintro e u1 ⟨rfl, hA, b1⟩
  obtain ⟨p, hp⟩ : ∃ p, p = w.heap.size + 2 := ⟨_, rfl⟩
  obtain ⟨g, hg⟩ : ∃ g, g = w.heap.size := ⟨_, rfl⟩
  obtain ⟨b, hb⟩ : ∃ b, b = w.heap.size + 1 := ⟨_, rfl⟩
  have WX : Hid (WholeX u1 w.heap.size p g b room (offersL room (itq l) 0)) := by
    rw [hp, hg, hb]
    exact ⟨0, _, _, ⟨hA, plF_none _, holds_none _, fun i hi => by omega⟩, fun i _ hi => by omega⟩
  have BE := hid b1
  rw [← hp]
  clear hA b1 hp hg hb
  go_wp2_with fail
  go_loopg [12] n (fun gk v wr => ∃ k : Nat, (gk = n - k ∧ k ≤ n ∧ WholeX wr w.heap.size p g b room (offersL room (itq l) k) ∧ Below w.heap.size w wr) ∧ v = .int .i64 (k : Int))
  case atStart => exact ⟨0, ⟨rfl, by omega, WX.out, BE.out⟩, rfl⟩
  case round =>
    clear WX BE
    obtain ⟨k, ⟨hg, hk, hW, hB⟩, rfl⟩ := hrel
    have WK := hid hW
    have BK := hid hB
    have HG := hid hg
    clear hW hB hg
    by_cases kn : k < n
    · obtain rfl := H3.out (by rw [← HN.out]; omega)
      obtain ⟨y, hy⟩ : ∃ y, l[k]? = some y := ⟨_, List.getElem?_eq_getElem (by rw [← HN.out]; exact kn)⟩
      obtain ⟨k0, k1⟩ := H4.out k y hy
      obtain ⟨z1, z2, z3⟩ := HX.out k y hy
      have ey := itq_at hy
      obtain ⟨s, c⟩ := y
      simp only at k0 k1 z1 z2 z3
      have HY : Hid (itq l k = ⟨s, c⟩) := ey
      have bk : (k : Int) < (n : Int) := by omega
      have bk0 : (0 : Int) ≤ (k : Int) := by omega
      have c0 : wr.cell? ⟨b0, o0 + k * 2, none⟩ = some (.string s) := keep_of_below BK.out _ _ k0
      have c1 : wr.cell? ⟨b0, o0 + k * 2 + 1, none⟩ = some (.int .i64 c) := keep_of_below BK.out _ _ k1
      clear k0 k1 hy ey
      go_wp2_with fail
      have WX : Hid (WholeX (wr.alloc (.cells #[.string s, .int .i64 c] 30)) w.heap.size p g b room (offersL room (itq l) k)) := by
        obtain ⟨m', h⟩ := WK.out
        exact ⟨m', h.keep (Same.below (bel_alloc _ _))⟩
      have BX : Hid (Below w.heap.size w (wr.alloc (.cells #[.string s, .int .i64 c] 30))) := bel_trans BK.out (bel_alloc _ _)
      clear c0 c1 WK BK
      generalize wr.alloc (.cells #[.string s, .int .i64 c] 30) = X at WX BX ⊢
      refine (offer_any X w.heap.size p g b room _ WX.out BX.out.size s c (by unfold maxLen; omega)).mono ?_
      rintro e u2 ⟨rfl, h2, b2, _⟩
      have W2 : Hid (WholeX u2 w.heap.size p g b room (offersL room (itq l) (k + 1))) := by
        show WholeX u2 w.heap.size p g b room (offerL room (offersL room (itq l) k) (itq l k).k (itq l k).c).1
        rw [HY.out]
        exact h2
      have B2 : Hid (Below w.heap.size w u2) := BX.out.trans b2
      clear h2 b2 WX BX
      go_wp2_with fail
      go_roundg (n - (k + 1))
      case rel => exact ⟨k + 1, ⟨rfl, by omega, W2.out, B2.out⟩, by go_num⟩
      case measure => have := HG.out; omega
    · have bk : ¬ (k : Int) < (n : Int) := by omega
      have kk : k = n := by omega
      go_wp2_with fail
      go_ret
      rw [kk] at WK
      exact ⟨p, g, b, rfl, WK.out, BK.out⟩
set_option maxHeartbeats 1600000 in
theorem of_bad (w : World) (r : Int) (lv : Value) (l : List Itm) (h : ItemsL w lv l) (hr : i64 r) (hb : r < 1 ∨ 64 < r) : Calls Try.prog 11 #[.int .i64 r, lv] w fun e w' => e = .returned (.pointer none) ∧ Below w.heap.size w w' := by
  obtain ⟨⟨A, cap, b0, o0, rfl, hcap, h3, h4⟩, hl, hx⟩ := h
  obtain ⟨n, hn⟩ : ∃ n, n = l.length := ⟨_, rfl⟩
  have HN := hid hn
  have H3 := hid h3
  have H4 := hid h4
  have NB := hid (new_bad w r hr hb)
  rw [← hn] at hcap hl ⊢
  clear h3 h4 hx hn hr hb
  go_enter Try.func11, Try.ntmps11
  go_wp2_with fail
  refine NB.out.mono ?_
  rintro e u1 ⟨rfl, rfl⟩
  go_wp2_with fail
  go_loopg [12] n (fun gk v wr => ∃ k : Nat, (gk = n - k ∧ k ≤ n ∧ Below u1.heap.size u1 wr) ∧ v = .int .i64 (k : Int))
  case atStart => exact ⟨0, ⟨rfl, by omega, Below.refl _ _⟩, rfl⟩
  case round =>
    obtain ⟨k, ⟨hg, hk, hB⟩, rfl⟩ := hrel
    have BK := hid hB
    have HG := hid hg
    clear hB hg
    by_cases kn : k < n
    · obtain rfl := H3.out (by rw [← HN.out]; omega)
      obtain ⟨y, hy⟩ : ∃ y, l[k]? = some y := ⟨_, List.getElem?_eq_getElem (by rw [← HN.out]; exact kn)⟩
      obtain ⟨k0, k1⟩ := H4.out k y hy
      obtain ⟨s, c⟩ := y
      simp only at k0 k1
      have bk : (k : Int) < (n : Int) := by omega
      have bk0 : (0 : Int) ≤ (k : Int) := by omega
      have c0 : wr.cell? ⟨b0, o0 + k * 2, none⟩ = some (.string s) := keep_of_below BK.out _ _ k0
      have c1 : wr.cell? ⟨b0, o0 + k * 2 + 1, none⟩ = some (.int .i64 c) := keep_of_below BK.out _ _ k1
      clear k0 k1 hy
      go_wp2_with fail
      have BX : Hid (Below u1.heap.size u1 (wr.alloc (.cells #[.string s, .int .i64 c] 30))) := bel_trans BK.out (bel_alloc _ _)
      clear c0 c1 BK
      generalize wr.alloc (.cells #[.string s, .int .i64 c] 30) = X at BX ⊢
      refine (offer_nil X s c).mono ?_
      rintro e u2 ⟨rfl, rfl⟩
      go_wp2_with fail
      go_roundg (n - (k + 1))
      case rel => exact ⟨k + 1, ⟨rfl, by omega, BX.out⟩, by go_num⟩
      case measure => have := HG.out; omega
    · have bk : ¬ (k : Int) < (n : Int) := by omega
      go_wp2_with fail
      go_ret
      exact ⟨rfl, BK.out⟩
theorem wholeX_own {w : World} {Bd p g b room : Nat} {m : List Itm} (h : WholeX w Bd p g b room m) : ∀ q, Of3 p g b q → Bd ≤ q ∧ q < w.heap.size := by
  obtain ⟨n, a, F, h, _⟩ := h
  have h1 := h.at'.blk.lt
  have h2 := h.at'.gl
  have h3 := h.at'.map.lt
  have h4 := h.at'.bp
  have h5 := h.at'.bg
  have h6 := h.at'.bb
  rintro q (rfl | rfl | rfl)
  · exact ⟨h4, h1⟩
  · exact ⟨h5, h2⟩
  · exact ⟨h6, h3⟩
theorem ctr : Ctr HPX where
  own h q d := by
    obtain ⟨p, g, b, _, hW, hD⟩ := h
    exact wholeX_own hW q ((hD q).1 d)
  keep h s := by
    obtain ⟨p, g, b, rfl, ⟨n, hW⟩, hD⟩ := h
    exact ⟨p, g, b, rfl, ⟨n, hW.keep (s.mono fun q _ e => (hD q).2 e)⟩, hD⟩
  ptr h := by
    obtain ⟨p, g, b, rfl, _⟩ := h
    exact ⟨p, rfl⟩
  new_ok w room r1 r64 := (new_ok w room r1 r64).mono fun e w' h => ⟨_, Of3 (w.heap.size + 2) w.heap.size (w.heap.size + 1), h.1, ⟨_, _, _, rfl, ⟨0, _, _, ⟨h.2.1, plF_none _, holds_none _, fun i hi => by omega⟩, fun i _ hi => by omega⟩, fun q => Iff.rfl⟩, h.2.2⟩
  new_bad w r hr hb := (new_bad w r hr hb).mono fun e w' h => ⟨h.1, by rw [h.2]; exact Below.refl _ _⟩
  offer w Bd v room m D s c h hbd hs hc := by
    obtain ⟨p, g, b, rfl, hW, hD⟩ := h
    refine (offer_any w Bd p g b room m hW hbd s c (by unfold maxLen; omega)).mono ?_
    rintro e w' ⟨rfl, h2, b2, o2⟩
    exact ⟨rfl, D, ⟨p, g, b, rfl, h2, hD⟩, b2, Same.mono o2 fun q _ hq hx => hq ((hD q).2 hx), fun q hq => Or.inl hq⟩
  offer_nil w s c := (offer_nil w s c).mono fun e w' h => ⟨h.1, by rw [h.2]; exact Below.refl _ _⟩
  get w Bd v room m D s h hs := by
    obtain ⟨p, g, b, rfl, ⟨n, a, F, hL, hF⟩, hD⟩ := h
    exact (get_any w Bd p g b room n a F hL.at' hL.pl m hL.holds s (by unfold maxLen; omega)).mono fun e w' h => ⟨h.1, by rw [h.2]; exact Below.refl _ _⟩
  get_nil w s := (get_nil w s).mono fun e w' h => ⟨h.1, by rw [h.2]; exact Below.refl _ _⟩
  list w Bd v room m D h := by
    obtain ⟨p, g, b, rfl, ⟨n, a, F, hL, hF⟩, hD⟩ := h
    exact list_any w Bd p g b room n a F m hL
  list_nil w := list_nil w
  last_some w Bd v room m D z h hz := by
    obtain ⟨p, g, b, rfl, ⟨n, a, F, hL, hF⟩, hD⟩ := h
    have n0 : 0 < n := by
      rcases Nat.eq_zero_or_pos n with e | e
      · have := hL.holds.len
        rw [e] at this
        rw [List.length_eq_zero_iff.1 this] at hz
        cases hz
      · exact e
    have e := hL.holds.last hF n0
    rw [hz] at e
    injection e with e
    rw [e]
    exact last_some w Bd p g b room n a F hL.at' n0
  last_none w Bd v room m D h hm := by
    obtain ⟨p, g, b, rfl, ⟨n, a, F, hL, hF⟩, hD⟩ := h
    have n0 : n = 0 := by rw [← hL.holds.len, hm]; rfl
    refine last_zero w _ fun u hu => (len_any u Bd p g b room n a F (hL.at'.since hu)).mono fun e w' h => ⟨by rw [h.1, n0]; rfl, h.2.below⟩
  last_nil w := last_zero w _ fun u hu => (len_nil u).mono fun e w' h => ⟨h.1, by rw [h.2]; exact Below.refl _ _⟩
  len w Bd v room m D h := by
    obtain ⟨p, g, b, rfl, ⟨n, a, F, hL, hF⟩, hD⟩ := h
    rw [hL.holds.len]
    exact (len_any w Bd p g b room n a F hL.at').mono fun e w' h => ⟨h.1, h.2.below⟩
  len_nil w := (len_nil w).mono fun e w' h => ⟨h.1, by rw [h.2]; exact Below.refl _ _⟩
  check w Bd v room m D h := by
    obtain ⟨p, g, b, rfl, ⟨n, a, F, hL, hF⟩, hD⟩ := h
    exact check_any w Bd p g b room n a F m hL hF
  check_nil w := (check_nil w).mono fun e w' h => ⟨h.1, by rw [h.2]; exact Below.refl _ _⟩
  of_ok w room lv l h r1 r64 := (of_ok w room lv l h r1 r64).mono fun e w' h => by
    obtain ⟨p, g, b, rfl, hW, hB⟩ := h
    exact ⟨_, Of3 p g b, rfl, ⟨p, g, b, rfl, hW, fun q => Iff.rfl⟩, hB⟩
  of_bad w r lv l h hr hb := of_bad w r lv l h hr hb
end Go.Proofs.Ytejdfahokbheoaa
