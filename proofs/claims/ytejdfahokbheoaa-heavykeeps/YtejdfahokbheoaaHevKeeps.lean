
/-
  HeavyKeeps, over the heap's contracts: there are never more keys than room; while there is room each is there with its last count.
-/
import Derived.Test.YtejdfahokbheoaaHevCtr
import Derived.Test.YtejdfahokbheoaaHevRPut
import Derived.Test.YtejdfahokbheoaaHevOwn
namespace Go.Proofs.Ytejdfahokbheoaa
open Go.RowKit Hv Go.Deep
set_option linter.unusedVariables false
set_option linter.unusedSimpArgs false

def KeysL (l : List Itm) : Prop := l.Pairwise fun a b => a.k ≠ b.k
theorem setL_out {l : List Itm} {x : Itm} (h : ∀ y, y ∈ l → y.k ≠ x.k) : setL l x = l ++ [x] := by
  unfold setL
  rw [if_neg]
  intro e
  obtain ⟨y, m, k⟩ := (any_key l x.k).1 e
  exact h y m k
theorem setL_in {l : List Itm} (hk : KeysL l) {x y : Itm} {i : Nat} (hi : l[i]? = some y) (e : y.k = x.k) : setL l x = l.set i x := by
  have hm : y ∈ l := List.mem_of_getElem? hi
  unfold setL
  rw [if_pos ((any_key l x.k).2 ⟨y, hm, e⟩)]
  obtain ⟨gi, ei⟩ := List.getElem?_eq_some_iff.1 hi
  apply List.ext_getElem? fun j => ?_
  rw [List.getElem?_map, List.getElem?_set]
  by_cases ij : i = j
  · subst ij
    rw [if_pos rfl, if_pos gi, hi]
    simp [e]
  · rw [if_neg ij]
    cases ej : l[j]? with
    | none => rfl
    | some z =>
      obtain ⟨gj, ez⟩ := List.getElem?_eq_some_iff.1 ej
      have ne : z.k ≠ x.k := fun q => by
        rcases Nat.lt_or_gt_of_ne ij with h | h
        · have := List.pairwise_iff_getElem.1 hk i j gi gj h
          rw [ei, ez] at this
          exact this (e.trans q.symm)
        · have := List.pairwise_iff_getElem.1 hk j i gj gi h
          rw [ei, ez] at this
          exact this (q.trans e.symm)
      simp [ne]
theorem keys_set {l : List Itm} (hk : KeysL l) (x : Itm) : KeysL (setL l x) := by
  by_cases e : ∃ y, y ∈ l ∧ y.k = x.k
  · obtain ⟨y, m, q⟩ := e
    unfold setL
    rw [if_pos ((any_key l x.k).2 ⟨y, m, q⟩)]
    refine List.pairwise_map.2 (hk.imp fun {a b} h => ?_)
    by_cases ea : a.k = x.k <;> by_cases eb : b.k = x.k
    · exact absurd (ea.trans eb.symm) h
    · rw [if_pos ea, if_neg eb]; exact fun z => eb z.symm
    · rw [if_neg ea, if_pos eb]; exact ea
    · rw [if_neg ea, if_neg eb]; exact h
  · rw [setL_out fun y m q => e ⟨y, m, q⟩]
    refine List.pairwise_append.2 ⟨hk, List.pairwise_singleton _ _, fun y m z hz => ?_⟩
    have : z = x := by simpa using hz
    subst this
    exact fun q => e ⟨y, m, q⟩
theorem keys_lasts (q : Nat → Itm) : ∀ k, KeysL (lastsL q k)
  | 0 => List.Pairwise.nil
  | k + 1 => keys_set (keys_lasts q k) _
theorem lasts_length (q : Nat → Itm) : ∀ k, (lastsL q k).length ≤ k
  | 0 => Nat.le_refl _
  | k + 1 => by
    have := lasts_length q k
    show (setL (lastsL q k) (q k)).length ≤ k + 1
    rcases setL_length (lastsL q k) (q k) with ⟨e, _⟩ | ⟨e, _⟩ <;> omega
theorem lasts_from (q : Nat → Itm) : ∀ k y, y ∈ lastsL q k → ∃ i, i < k ∧ q i = y
  | 0, y, m => by cases m
  | k + 1, y, m => by
    rcases (setL_mem (lastsL q k) (q k) y).1 m with rfl | ⟨m2, _⟩
    · exact ⟨k, by omega, rfl⟩
    · obtain ⟨i, hi, e⟩ := lasts_from q k y m2
      exact ⟨i, by omega, e⟩
set_option maxHeartbeats 6400000 in
set_option maxRecDepth 20000 in
theorem keeps_walk {HP : HPT} (C : Ctr HP) (room : Int) (lv : Value) (l : List Itm) (w : World) (hr : i64 room) (h : ItemsL w lv l) : Calls Try.prog 4 #[.int .i64 room, lv] w fun e w' => e = .returned (.bool true) ∧ Below w.heap.size w w' := by
  obtain ⟨hI, hln, hlk⟩ := h
  have FW : Hid (∀ w1, Below w.heap.size w w1 → Calls Try.prog 8 #[lv] w1 (TellsW w1 (FewL l))) := fun w1 b1 => hfew_any w1 lv l (hI.keep (keep_of_below b1)) hln fun i x e => (hlk i x e).1
  by_cases hroom : 1 ≤ room ∧ room ≤ 64
  rotate_left
  · go_enter Try.func4, Try.ntmps4
    go_wp2_with fail
    refine (C.new_bad w room hr (by omega)).mono ?_
    rintro e u1 ⟨rfl, b1⟩
    have BE1 := hid b1
    clear b1
    by_cases lo : room < 1
    · go_wp2_with fail
      refine (hawake_any C u1).mono ?_
      rintro e u2 ⟨rfl, b2⟩
      go_wp2_with fail
      go_ret
      exact ⟨rfl, bel_trans BE1.out b2⟩
    · have hi : room > 64 := by omega
      go_wp2_with fail
      refine (hawake_any C u1).mono ?_
      rintro e u2 ⟨rfl, b2⟩
      go_wp2_with fail
      go_ret
      exact ⟨rfl, bel_trans BE1.out b2⟩
  obtain ⟨R, rfl⟩ : ∃ R : Nat, room = (R : Int) := ⟨room.toNat, by omega⟩
  have r1 : 1 ≤ R := by omega
  have r2 : R ≤ 64 := by omega
  have hI0 := hI
  obtain ⟨A, cap, b, o, rfl, hc, h3, h4⟩ := hI
  have H3 : Hid (0 < l.length → A = some ⟨b, o, none⟩) := h3
  have H4 : Hid (∀ i x, l[i]? = some x → w.cell? ⟨b, o + i * 2, none⟩ = some (.string x.k) ∧ w.cell? ⟨b, o + i * 2 + 1, none⟩ = some (.int .i64 x.c)) := h4
  have HK0 : Hid (∀ (i : Nat) (x : Itm), l[i]? = some x → x.k.size ≤ 9223372036854775807 ∧ i64 x.c) := hlk
  obtain ⟨n, hn⟩ : ∃ n, n = l.length := ⟨_, rfl⟩
  have HN : Hid (n = l.length) := hn
  rw [← hn] at hc hln FW ⊢
  clear h3 h4 hn hI0 hlk hroom hr
  go_enter Try.func4, Try.ntmps4
  go_wp2_with fail
  refine (C.new_ok w R r1 r2).mono ?_
  rintro e u1 ⟨v, D1, rfl, H1, b1⟩
  have HP1 := hid H1
  have BE1 := hid b1
  obtain ⟨p, rfl⟩ := C.ptr H1
  clear H1 b1
  go_wp2_with fail
  refine (FW.out u1 BE1.out).mono ?_
  rintro e u2 ⟨B, rfl, hB, rfl⟩
  cases B with
  | false =>
    go_wp2_with fail
    refine (hawake_any C u2).mono ?_
    rintro e u3 ⟨rfl, b3⟩
    go_wp2_with fail
    go_ret
    exact ⟨rfl, bel_trans BE1.out b3⟩
  | true =>
  have n150 : n ≤ 150 := by rw [HN.out]; exact (hB.1 rfl).1
  clear hB FW
  go_wp2_with fail
  go_loopg [6, 39] n (fun gk sv i wr => ∃ (k : Nat) (D : Nat → Prop) (v : Value) (L : List Itm), (gk = n - k ∧ k ≤ n ∧ HP wr w.heap.size (.pointer (some ⟨p, 0, none⟩)) R (offersL R (itq l) k) D ∧ Below w.heap.size w wr ∧ L = lastsL (itq l) k ∧ wr.ownsRow w.heap.size 30 2 v L.length (lCells L) ∧ ∀ g, v.ownBlock = some g → ¬ D g) ∧ v = sv ∧ i = .int .i64 (k : Int))
  case atStart => exact ⟨0, D1, _, [], ⟨rfl, by omega, HP1.out, BE1.out, rfl, World.ownsRow_nil _ _ _ _, fun g e => by cases e⟩, rfl, rfl⟩
  case round =>
    obtain ⟨wo, rfl⟩ : ∃ wo, wo = wr := ⟨_, rfl⟩
    obtain ⟨k, D, v, L, ⟨hg, hk, hH, hBl, hL, hO, hD⟩, rfl, rfl⟩ := hrel
    have HK : Hid (gk = n - k) := hg
    have HH : Hid (HP wo w.heap.size (.pointer (some ⟨p, 0, none⟩)) R (offersL R (itq l) k) D) := hH
    have BL : Hid (Below w.heap.size w wo) := hBl
    have HL : Hid (L = lastsL (itq l) k) := hL
    have OW : Hid (wo.ownsRow w.heap.size 30 2 v L.length (lCells L)) := hO
    have ND : Hid (∀ g, v.ownBlock = some g → ¬ D g) := hD
    by_cases hz : k < n
    · obtain rfl := H3.out (by rw [← HN.out]; omega)
      obtain ⟨x, hx⟩ : ∃ x, l[k]? = some x := ⟨_, List.getElem?_eq_getElem (by rw [← HN.out]; exact hz)⟩
      obtain ⟨c1, c2⟩ := H4.out k x hx
      have hk0 := HK0.out k x hx
      obtain ⟨s, c⟩ := x
      simp only at c1 c2 hk0
      have c1 : wo.cell? ⟨b, o + k * 2, none⟩ = some (.string s) := keep_of_below hBl _ _ c1
      have c2 : wo.cell? ⟨b, o + k * 2 + 1, none⟩ = some (.int .i64 c) := keep_of_below hBl _ _ c2
      have HX : Hid (itq l k = ⟨s, c⟩ ∧ s.size ≤ 9223372036854775807 ∧ i64 c) := ⟨itq_at hx, hk0⟩
      have L150 : L.length ≤ k := by rw [hL]; exact lasts_length _ _
      have KL : Hid (KeysL L) := by show KeysL L; rw [hL]; exact keys_lasts _ _
      have bk : (k : Int) < (n : Int) := by omega
      have bk0 : (0 : Int) ≤ (k : Int) := by omega
      have zo := hBl.size
      clear hg hH hBl hL hO hD hx hk0
      go_wp2_with fail
      have KX : Hid (Blk (wo.alloc (.cells #[.string s, .int .i64 c] 30)) wo.heap.size 30 #[.string s, .int .i64 c]) := Blk.new _ _ _
      have BX : Hid (Below wo.heap.size wo (wo.alloc (.cells #[.string s, .int .i64 c] 30))) := bel_alloc _ _
      clear c1 c2
      generalize wo.alloc (.cells #[.string s, .int .i64 c] 30) = wx at KX BX ⊢
      refine (C.offer wx _ _ R _ D s c (C.since HH.out BX.out) (by have := BX.out.size; omega) HX.out.2.1 HX.out.2.2).mono ?_
      rintro e u4 ⟨rfl, D4, h4, b4, s4, d4⟩
      have HQ : Hid (HP u4 w.heap.size (.pointer (some ⟨p, 0, none⟩)) R (offersL R (itq l) (k + 1)) D4) := by
        show HP _ _ _ _ (offerL R (offersL R (itq l) k) (itq l k).k (itq l k).c).1 _
        rw [HX.out.1]
        exact h4
      have BQ : Hid (Below w.heap.size w u4) := (bel_trans BL.out BX.out).trans b4
      have OQ : Hid (u4.ownsRow w.heap.size 30 2 v L.length (lCells L)) := owns_of OW.out fun g e => by
        have hg := OW.out.lt g e
        have e1 := BX.out.block g hg.2
        have e2 := s4.2 g (ND.out g e) (by have := BX.out.size; omega)
        rw [e2, e1]
      have nX : ¬ D wo.heap.size := fun d => by have := (C.own HH.out _ d).2; omega
      have KQ : Hid (Blk u4 wo.heap.size 30 #[.string s, .int .i64 c]) := KX.out.of (s4.2 _ nX KX.out.lt)
      have NQ : Hid (∀ g, v.ownBlock = some g → ¬ D4 g) := fun g e d => by
        rcases d4 g d with q | q
        · exact ND.out g e q
        · have := (OW.out.lt g e).2; have := BX.out.size; omega
      have VX : Hid (v.ownBlock ≠ some wo.heap.size) := fun e => by have := (OW.out.lt _ e).2; omega
      have zq : wo.heap.size < u4.heap.size := KQ.out.lt
      clear h4 b4 s4 d4 nX HH KX OW ND BX
      obtain ⟨A9, cap9, g9, hv9, hc9, hA9⟩ : ∃ A cap g, v = .slice A L.length cap ∧ L.length ≤ cap ∧ (0 < L.length → A = some ⟨g, 0, none⟩) := by
        rcases OQ.out.2 with ⟨e, h0⟩ | ⟨g, cap, cur, e, _, _, hn, _⟩
        · exact ⟨none, 0, 0, by rw [h0]; exact e, by omega, fun z => by omega⟩
        · exact ⟨_, cap, g, e, hn, fun _ => rfl⟩
      subst hv9
      have HA9 : Hid (0 < L.length → A9 = some ⟨g9, 0, none⟩) := hA9
      obtain ⟨N, hN⟩ : ∃ N, N = L.length := ⟨_, rfl⟩
      have HNL : Hid (N = L.length) := hN
      rw [← hN] at OQ NQ VX hc9 L150 ⊢
      clear hA9 hN
      go_wp2_with fail
      go_loopg [9, 51] N (fun gk av i wr => ∃ (c9 : Nat) (at9 : Int), (gk = N - c9 ∧ c9 ≤ N ∧ ((at9 = -1 ∧ ∀ j y, j < c9 → L[j]? = some y → y.k ≠ s) ∨ ∃ j y, j < c9 ∧ at9 = (j : Int) ∧ L[j]? = some y ∧ y.k = s) ∧ Below u4.heap.size u4 wr) ∧ av = .int .i64 at9 ∧ i = .int .i64 (c9 : Int))
      case atStart => exact ⟨0, -1, ⟨rfl, by omega, Or.inl ⟨rfl, fun j y hj => by omega⟩, Below.refl _ _⟩, rfl, rfl⟩
      case round =>
        obtain ⟨c9, at9, ⟨hg, hc, hP, hB9⟩, rfl, rfl⟩ := hrel
        have HK9 : Hid (gk = N - c9 ∧ ((at9 = -1 ∧ ∀ j y, j < c9 → L[j]? = some y → y.k ≠ s) ∨ ∃ j y, j < c9 ∧ at9 = (j : Int) ∧ L[j]? = some y ∧ y.k = s)) := ⟨hg, hP⟩
        have BI : Hid (Below u4.heap.size u4 wr) := hB9
        have KW : Hid (Blk wr wo.heap.size 30 #[.string s, .int .i64 c]) := KQ.out.since hB9
        have x0 : wr.cell? ⟨wo.heap.size, 0, none⟩ = some (.string s) := KW.out.cell 0
        have x1 : wr.cell? ⟨wo.heap.size, 1, none⟩ = some (.int .i64 c) := KW.out.cell 1
        by_cases hz9 : c9 < N
        · obtain rfl := HA9.out (by rw [← HNL.out]; omega)
          obtain ⟨y, hy⟩ : ∃ y, L[c9]? = some y := ⟨_, List.getElem?_eq_getElem (by rw [← HNL.out]; omega)⟩
          have p1 : wr.cell? ⟨g9, c9 * 2, none⟩ = some (.string y.k) := keep_of_below hB9 _ _ (by rw [World.ownsRow.cellAt OQ.out (c9 * 2) (by omega)]; exact (lCells_get L c9 y hy).1)
          obtain ⟨t, d⟩ := y
          simp only at p1
          have HY : Hid (L[c9]? = some ⟨t, d⟩) := hy
          have bj : (c9 : Int) < (N : Int) := by omega
          have bj0 : (0 : Int) ≤ (c9 : Int) := by omega
          clear hg hP hB9 hy
          by_cases e : t = s
          · have q : (t.toList == s.toList) = true := by rw [str_eq, decide_eq_true e]
            have HE : Hid (t = s) := e
            clear e
            go_wp2_with fail
            go_quiet (fail)
            go_wp2_with fail
            go_roundg (N - (c9 + 1))
            case measure => have := HK9.out.1; omega
            case rel => exact ⟨c9 + 1, (c9 : Int), ⟨rfl, by omega, Or.inr ⟨c9, _, by omega, rfl, HY.out, HE.out⟩, below_drewN BI.out nq⟩, rfl, by go_num⟩
          · have q : (t.toList == s.toList) = false := by rw [str_eq, decide_eq_false e]
            have HE : Hid (t ≠ s) := e
            clear e
            go_wp2_with fail
            go_quiet (fail)
            go_wp2_with fail
            go_roundg (N - (c9 + 1))
            case measure => have := HK9.out.1; omega
            case rel =>
              refine ⟨c9 + 1, at9, ⟨rfl, by omega, ?_, below_drewN BI.out nq⟩, rfl, by go_num⟩
              rcases HK9.out.2 with ⟨e1, e2⟩ | ⟨j, y, e1, e2⟩
              · refine Or.inl ⟨e1, fun j y hj hy => ?_⟩
                by_cases ej : j = c9
                · subst ej
                  have := HY.out.symm.trans hy
                  cases this
                  exact HE.out
                · exact e2 j y (by omega) hy
              · exact Or.inr ⟨j, y, by omega, e2⟩
        · have bj : ¬ (c9 : Int) < (N : Int) := by omega
          have eN : c9 = N := by omega
          subst eN
          have HR : Hid (HP wr w.heap.size (.pointer (some ⟨p, 0, none⟩)) R (offersL R (itq l) (k + 1)) D4) := C.since HQ.out hB9
          have OR : Hid (wr.ownsRow w.heap.size 30 2 (.slice A9 c9 cap9) c9 (lCells L)) := owns_of OQ.out fun g e => hB9.block g (OQ.out.lt g e).2
          have BW : Hid (Below w.heap.size w wr) := bel_trans BQ.out hB9
          have zr := hB9.size
          clear hg hB9 HK9
          rcases hP with ⟨rfl, nf⟩ | ⟨j, y, hj, rfl, hy, ey⟩
          · have LS : Hid (lastsL (itq l) (k + 1) = (L ++ [⟨s, c⟩])) := by
              show setL (lastsL (itq l) k) (itq l k) = _
              rw [HX.out.1, ← HL.out]
              exact setL_out fun y m => by
                obtain ⟨i, hi⟩ := List.mem_iff_getElem?.1 m
                exact nf i y (by rw [HNL.out]; exact (List.getElem?_eq_some_iff.1 hi).1) hi
            clear nf
            obtain ⟨it, hit, hz0, hz1, hz2⟩ := infoHI
            have HT : Hid (Try.prog.info? 30 = some it ∧ it.zero = some (.agg #[.string ⟨#[]⟩, .int .i64 0]) ∧ it.size = 2 ∧ it.bytes = 24) := ⟨hit, hz0, hz1, hz2⟩
            clear hit hz0 hz1 hz2
            have bw := BW.out.size
            go_wp2_with (at_builtin; refine wpList_append_lies _ rfl _ _ _ rfl w.heap.size 30 it (.agg #[.string ⟨#[]⟩, .int .i64 0]) 2 24 Try.underlying22 HT.out.1 HT.out.2.1 HT.out.2.2.1 HT.out.2.2.2 rfl (by omega) (.slice A9 c9 cap9) c9 (lCells L) (by rfl) (OR.out.alloc _) ⟨wr.heap.size, 0, none⟩ 1 1 [.string s, .int .i64 c] (by rfl) rfl (new_it wr 30 _ _) (it_cell _ _) (by omega) (by unfold maxLen; omega) (by omega) (by simp; omega) _ rfl ?_; intro g cap1 w1 hown1 hgrow hat hlt1; have OA : Hid (w1.ownsRow w.heap.size 30 2 (.slice (some ⟨g, 0, none⟩) (c9 + 1) cap1) (c9 + 1) (lCells (L ++ [⟨s, c⟩]))) := (by have e := hown1; rw [lCells_append]; exact e); have NA : Hid (¬ D4 g) := (fun d => by have q := (C.own HR.out g d).2; rcases hat with e | e; exact NQ.out g e d; simp at e; omega); have HA : Hid (HP w1 w.heap.size (.pointer (some ⟨p, 0, none⟩)) R (offersL R (itq l) (k + 1)) D4) := C.keep HR.out ⟨by have := hgrow.size; simp at this; omega, fun x d hx => (hgrow.block x (by simp; omega) (fun e => NQ.out x e.symm d)).trans (Below.heap_alloc _ _ _ hx)⟩; have BA : Hid (Below w.heap.size w w1) := (BW.out.alloc bw _).grown hgrow (by simp; omega) (fun x e => (OR.out.lt x e).1); have KA : Hid (Blk w1 wo.heap.size 30 #[.string s, .int .i64 c]) := (KW.out.alloc _).grown hgrow (fun e => VX.out e.symm); have x0 : w1.cell? ⟨wo.heap.size, 0, none⟩ = some (.string s) := KA.out.cell 0; have x1 : w1.cell? ⟨wo.heap.size, 1, none⟩ = some (.int .i64 c) := KA.out.cell 1; have gl := (lCells_get (L ++ [⟨s, c⟩]) c9 ⟨s, c⟩ (by rw [HNL.out, List.getElem?_concat_length])); have y0 : w1.cell? ⟨g, c9 * 2, none⟩ = some (.string s) := (by rw [World.ownsRow.cellAt OA.out (c9 * 2) (by omega)]; exact gl.1); have y1 : w1.cell? ⟨g, c9 * 2 + 1, none⟩ = some (.int .i64 c) := (by rw [World.ownsRow.cellAt OA.out (c9 * 2 + 1) (by omega)]; exact gl.2); have f0 := World.ownsRow.frozenAt OA.out (c9 * 2); have f1 := World.ownsRow.frozenAt OA.out (c9 * 2 + 1); have bc9 : (c9 : Int) < ((c9 + 1 : Nat) : Int) := (by omega); have bc0 : (0 : Int) ≤ (c9 : Int) := (by omega); clear hown1 hgrow hat hlt1 gl)
            have OS : Hid (((w1.setCell ⟨g, c9 * 2, none⟩ (.string s)).setCell ⟨g, c9 * 2 + 1, none⟩ (.int .i64 c)).ownsRow w.heap.size 30 2 (.slice (some ⟨g, 0, none⟩) (c9 + 1) cap1) (c9 + 1) (lCells ((L ++ [(⟨s, c⟩ : Itm)]).set c9 ⟨s, c⟩))) := by
              have h1 := (World.ownsRow.stored OA.out (c9 * 2) (.string s)).1
              have h2 := (World.ownsRow.stored h1 (c9 * 2 + 1) (.int .i64 c)).1
              rw [← lCells_set]
              exact h2
            have lg := OA.out.lt g rfl
            have HS : Hid (HP ((w1.setCell ⟨g, c9 * 2, none⟩ (.string s)).setCell ⟨g, c9 * 2 + 1, none⟩ (.int .i64 c)) w.heap.size (.pointer (some ⟨p, 0, none⟩)) R (offersL R (itq l) (k + 1)) D4) := C.keep HA.out ((Same.setCell (a := ⟨g, _, none⟩) NA.out _).trans (Same.setCell (a := ⟨g, _, none⟩) NA.out _))
            have BS : Hid (Below w.heap.size w ((w1.setCell ⟨g, c9 * 2, none⟩ (.string s)).setCell ⟨g, c9 * 2 + 1, none⟩ (.int .i64 c))) := (BA.out.setCell (p := ⟨g, _, none⟩) lg.1 _).setCell (p := ⟨g, _, none⟩) lg.1 _
            have NS : Hid (∀ q, (Value.slice (some ⟨g, 0, none⟩) (c9 + 1) cap1).ownBlock = some q → ¬ D4 q) := fun q e => by cases e; exact NA.out
            clear y0 y1 f0 f1 x0 x1 OR OA
            generalize (w1.setCell ⟨g, c9 * 2, none⟩ (.string s)).setCell ⟨g, c9 * 2 + 1, none⟩ (.int .i64 c) = w2 at OS HS BS ⊢
            obtain ⟨L2, hL2⟩ : ∃ L2, L2 = L ++ [(⟨s, c⟩ : Itm)] := ⟨_, rfl⟩
            have e2 : (L ++ [(⟨s, c⟩ : Itm)]).set c9 ⟨s, c⟩ = L ++ [⟨s, c⟩] := by rw [HNL.out, List.set_append]; simp
            rw [e2] at OS
            have E2 : c9 + 1 = L2.length := by rw [hL2, List.length_append, ← HNL.out]; rfl
            rw [← hL2] at LS OS
            clear hL2 e2
            obtain ⟨NN, hNN⟩ : ∃ NN, NN = c9 + 1 := ⟨_, rfl⟩
            have LB : NN ≤ 151 := by omega
            rw [← hNN] at OS NS E2 ⊢
            replace E2 : Hid (NN = L2.length) := E2
            clear hNN
            have MR : ¬ (((offersL R (itq l) (k + 1)).length : Nat) : Int) > (R : Int) := by have := offers_length r1 (itq l) (k + 1); omega
            have LEN := hid (C.len w2 _ _ R _ D4 HS.out)
            obtain ⟨MM, hMM⟩ : ∃ MM, MM = (((offersL R (itq l) (k + 1)).length : Nat) : Int) := ⟨_, rfl⟩
            rw [← hMM] at MR LEN
            clear hMM
            go_wp2_with fail
            refine LEN.out.mono ?_
            rintro e u5 ⟨rfl, b5⟩
            have H5 : Hid (HP u5 w.heap.size (.pointer (some ⟨p, 0, none⟩)) R (offersL R (itq l) (k + 1)) D4) := C.since HS.out b5
            have B5 : Hid (Below w.heap.size w u5) := bel_trans BS.out b5
            have O5 : Hid (u5.ownsRow w.heap.size 30 2 (.slice (some ⟨g, 0, none⟩) NN cap1) NN (lCells L2)) := owns_of OS.out fun q e => b5.block q (OS.out.lt q e).2
            clear b5 LEN
            go_wp2_with fail
            go_loopg [82] NN (fun gk i wr => ∃ j9 : Nat, (gk = NN - j9 ∧ j9 ≤ NN ∧ Below u5.heap.size u5 wr) ∧ i = .int .i64 (j9 : Int))
            case atStart => exact ⟨0, ⟨rfl, by omega, Below.refl _ _⟩, rfl⟩
            case round =>
              obtain ⟨j9, ⟨hg, hj9, hB7⟩, rfl⟩ := hrel
              have HK7 : Hid (gk = NN - j9) := hg
              have BI7 : Hid (Below u5.heap.size u5 wr) := hB7
              by_cases hz7 : j9 < NN
              · obtain ⟨y, hy⟩ : ∃ y, L2[j9]? = some y := ⟨_, List.getElem?_eq_getElem (by have := E2.out; omega)⟩
                have p0 : wr.cell? ⟨g, j9 * 2, none⟩ = some (.string y.k) := keep_of_below hB7 _ _ (by rw [World.ownsRow.cellAt O5.out (j9 * 2) (by omega)]; exact (lCells_get L2 j9 y hy).1)
                have p1 : wr.cell? ⟨g, j9 * 2 + 1, none⟩ = some (.int .i64 y.c) := keep_of_below hB7 _ _ (by rw [World.ownsRow.cellAt O5.out (j9 * 2 + 1) (by omega)]; exact (lCells_get L2 j9 y hy).2)
                have SZ : Hid (y.k.size ≤ 9223372036854775807) := by
                  have m1 : y ∈ lastsL (itq l) (k + 1) := by rw [LS.out]; exact List.mem_of_getElem? hy
                  obtain ⟨i, hi, e⟩ := lasts_from (itq l) (k + 1) y m1
                  obtain ⟨z, hz⟩ : ∃ z, l[i]? = some z := ⟨_, List.getElem?_eq_getElem (by rw [← HN.out]; omega)⟩
                  rw [← e, itq_at hz]
                  exact (HK0.out i z hz).1
                have GT : Hid (NN ≤ R → getL (offersL R (itq l) (k + 1)) y.k = some y.c) := fun q => by
                  have m1 : y ∈ lastsL (itq l) (k + 1) := by rw [LS.out]; exact List.mem_of_getElem? hy
                  exact getL_some (offers_stands _ _ _) (((offers_keep r1 (itq l) (k + 1) (by rw [LS.out]; have := E2.out; omega)).2 y).2 m1)
                obtain ⟨t, d⟩ := y
                simp only at p0 p1 SZ GT
                have bj7 : (j9 : Int) < (NN : Int) := by omega
                have bj70 : (0 : Int) ≤ (j9 : Int) := by omega
                clear hg hB7 hy
                go_wp2_with fail
                have KY : Hid (Blk (wr.alloc (.cells #[.string t, .int .i64 d] 30)) wr.heap.size 30 #[.string t, .int .i64 d]) := Blk.new _ _ _
                have BY : Hid (Below wr.heap.size wr (wr.alloc (.cells #[.string t, .int .i64 d] 30))) := bel_alloc _ _
                clear p0 p1
                obtain ⟨wy9, rfl⟩ : ∃ wy9, wy9 = wr := ⟨_, rfl⟩
                generalize wy9.alloc (.cells #[.string t, .int .i64 d] 30) = wy at KY BY ⊢
                refine (C.get wy _ _ R _ D4 t (C.since H5.out (bel_trans BI7.out BY.out)) SZ.out).mono ?_
                rintro e u6 ⟨rfl, b6⟩
                have B6 : Hid (Below u5.heap.size u5 u6) := bel_trans BI7.out (bel_trans BY.out b6)
                have x7 : u6.cell? ⟨wy9.heap.size, 1, none⟩ = some (.int .i64 d) := (KY.out.since b6).cell 1
                clear b6
                by_cases le : NN ≤ R
                · rw [GT.out le]
                  simp only [Option.isSome_some, Option.getD_some]
                  have le2 : (NN : Int) ≤ (R : Int) := by omega
                  have dd : (d != d) = false := by simp
                  go_wp2_with fail
                  go_roundg (NN - (j9 + 1))
                  case measure => have := HK7.out; omega
                  case rel => exact ⟨j9 + 1, ⟨rfl, by omega, B6.out⟩, by go_num⟩
                · have le2 : ¬ (NN : Int) ≤ (R : Int) := by omega
                  generalize (getL (offersL R (itq l) (k + 1)) t).isSome = bb
                  generalize (getL (offersL R (itq l) (k + 1)) t).getD 0 = dd
                  go_wp2_with fail
                  go_roundg (NN - (j9 + 1))
                  case measure => have := HK7.out; omega
                  case rel => exact ⟨j9 + 1, ⟨rfl, by omega, B6.out⟩, by go_num⟩
              · have bj7 : ¬ (j9 : Int) < (NN : Int) := by omega
                have H8 : Hid (HP wr w.heap.size (.pointer (some ⟨p, 0, none⟩)) R (offersL R (itq l) (k + 1)) D4) := C.since H5.out hB7
                have O8 : Hid (wr.ownsRow w.heap.size 30 2 (.slice (some ⟨g, 0, none⟩) NN cap1) NN (lCells L2)) := owns_of O5.out fun q e => hB7.block q (O5.out.lt q e).2
                have B8 : Hid (Below w.heap.size w wr) := bel_trans B5.out hB7
                clear hg hB7
                go_wp2_with fail
                go_roundg (n - (k + 1))
                case measure => have := HK.out; omega
                case rel => exact ⟨k + 1, D4, .slice (some ⟨g, 0, none⟩) NN cap1, L2, ⟨rfl, by omega, H8.out, B8.out, LS.out.symm, by rw [← E2.out]; exact O8.out, NS.out⟩, rfl, by go_num⟩
          · have LS : Hid (lastsL (itq l) (k + 1) = L.set j ⟨s, c⟩) := by
              show setL (lastsL (itq l) k) (itq l k) = _
              rw [HX.out.1, ← HL.out]
              exact setL_in KL.out hy ey
            have aj : ¬ (j : Int) < 0 := by omega
            have bj9 : (j : Int) < (c9 : Int) := by omega
            have bj0 : (0 : Int) ≤ (j : Int) := by omega
            obtain rfl := HA9.out (by rw [← HNL.out]; omega)
            have y0 : wr.cell? ⟨g9, j * 2, none⟩ = some (.string y.k) := by rw [World.ownsRow.cellAt OR.out (j * 2) (by omega)]; exact (lCells_get L j y hy).1
            have y1 : wr.cell? ⟨g9, j * 2 + 1, none⟩ = some (.int .i64 y.c) := by rw [World.ownsRow.cellAt OR.out (j * 2 + 1) (by omega)]; exact (lCells_get L j y hy).2
            have f0 := World.ownsRow.frozenAt OR.out (j * 2)
            have f1 := World.ownsRow.frozenAt OR.out (j * 2 + 1)
            clear hy
            go_wp2_with fail
            have OS : Hid (((wr.setCell ⟨g9, j * 2, none⟩ (.string s)).setCell ⟨g9, j * 2 + 1, none⟩ (.int .i64 c)).ownsRow w.heap.size 30 2 (.slice (some ⟨g9, 0, none⟩) c9 cap9) c9 (lCells (L.set j ⟨s, c⟩))) := by
              have h1 := (World.ownsRow.stored OR.out (j * 2) (.string s)).1
              have h2 := (World.ownsRow.stored h1 (j * 2 + 1) (.int .i64 c)).1
              rw [← lCells_set]
              exact h2
            have ng : ¬ D4 g9 := NQ.out g9 rfl
            have lg := OR.out.lt g9 rfl
            have HS : Hid (HP ((wr.setCell ⟨g9, j * 2, none⟩ (.string s)).setCell ⟨g9, j * 2 + 1, none⟩ (.int .i64 c)) w.heap.size (.pointer (some ⟨p, 0, none⟩)) R (offersL R (itq l) (k + 1)) D4) := C.keep HR.out ((Same.setCell (a := ⟨g9, _, none⟩) ng _).trans (Same.setCell (a := ⟨g9, _, none⟩) ng _))
            have BS : Hid (Below w.heap.size w ((wr.setCell ⟨g9, j * 2, none⟩ (.string s)).setCell ⟨g9, j * 2 + 1, none⟩ (.int .i64 c))) := (BW.out.setCell (p := ⟨g9, _, none⟩) lg.1 _).setCell (p := ⟨g9, _, none⟩) lg.1 _
            have NS : Hid (∀ g, (Value.slice (some ⟨g9, 0, none⟩) c9 cap9).ownBlock = some g → ¬ D4 g) := NQ.out
            clear y0 y1 f0 f1 OR
            generalize (wr.setCell ⟨g9, j * 2, none⟩ (.string s)).setCell ⟨g9, j * 2 + 1, none⟩ (.int .i64 c) = w2 at OS HS BS ⊢
            obtain ⟨L2, hL2⟩ : ∃ L2, L2 = L.set j ⟨s, c⟩ := ⟨_, rfl⟩
            have E2 : c9 = L2.length := by rw [hL2, List.length_set]; exact HNL.out
            rw [← hL2] at LS OS
            clear hL2
            obtain ⟨NN, hNN⟩ : ∃ NN, NN = c9 := ⟨_, rfl⟩
            have LB : NN ≤ 151 := by omega
            rw [← hNN] at OS NS E2 ⊢
            replace E2 : Hid (NN = L2.length) := E2
            clear hNN
            have MR : ¬ (((offersL R (itq l) (k + 1)).length : Nat) : Int) > (R : Int) := by have := offers_length r1 (itq l) (k + 1); omega
            have LEN := hid (C.len w2 _ _ R _ D4 HS.out)
            obtain ⟨MM, hMM⟩ : ∃ MM, MM = (((offersL R (itq l) (k + 1)).length : Nat) : Int) := ⟨_, rfl⟩
            rw [← hMM] at MR LEN
            clear hMM
            go_wp2_with fail
            refine LEN.out.mono ?_
            rintro e u5 ⟨rfl, b5⟩
            have H5 : Hid (HP u5 w.heap.size (.pointer (some ⟨p, 0, none⟩)) R (offersL R (itq l) (k + 1)) D4) := C.since HS.out b5
            have B5 : Hid (Below w.heap.size w u5) := bel_trans BS.out b5
            have O5 : Hid (u5.ownsRow w.heap.size 30 2 (.slice (some ⟨g9, 0, none⟩) NN cap9) NN (lCells L2)) := owns_of OS.out fun q e => b5.block q (OS.out.lt q e).2
            clear b5 LEN
            go_wp2_with fail
            go_loopg [82] NN (fun gk i wr => ∃ j9 : Nat, (gk = NN - j9 ∧ j9 ≤ NN ∧ Below u5.heap.size u5 wr) ∧ i = .int .i64 (j9 : Int))
            case atStart => exact ⟨0, ⟨rfl, by omega, Below.refl _ _⟩, rfl⟩
            case round =>
              obtain ⟨j9, ⟨hg, hj9, hB7⟩, rfl⟩ := hrel
              have HK7 : Hid (gk = NN - j9) := hg
              have BI7 : Hid (Below u5.heap.size u5 wr) := hB7
              by_cases hz7 : j9 < NN
              · obtain ⟨y, hy⟩ : ∃ y, L2[j9]? = some y := ⟨_, List.getElem?_eq_getElem (by have := E2.out; omega)⟩
                have p0 : wr.cell? ⟨g9, j9 * 2, none⟩ = some (.string y.k) := keep_of_below hB7 _ _ (by rw [World.ownsRow.cellAt O5.out (j9 * 2) (by omega)]; exact (lCells_get L2 j9 y hy).1)
                have p1 : wr.cell? ⟨g9, j9 * 2 + 1, none⟩ = some (.int .i64 y.c) := keep_of_below hB7 _ _ (by rw [World.ownsRow.cellAt O5.out (j9 * 2 + 1) (by omega)]; exact (lCells_get L2 j9 y hy).2)
                have SZ : Hid (y.k.size ≤ 9223372036854775807) := by
                  have m1 : y ∈ lastsL (itq l) (k + 1) := by rw [LS.out]; exact List.mem_of_getElem? hy
                  obtain ⟨i, hi, e⟩ := lasts_from (itq l) (k + 1) y m1
                  obtain ⟨z, hz⟩ : ∃ z, l[i]? = some z := ⟨_, List.getElem?_eq_getElem (by rw [← HN.out]; omega)⟩
                  rw [← e, itq_at hz]
                  exact (HK0.out i z hz).1
                have GT : Hid (NN ≤ R → getL (offersL R (itq l) (k + 1)) y.k = some y.c) := fun q => by
                  have m1 : y ∈ lastsL (itq l) (k + 1) := by rw [LS.out]; exact List.mem_of_getElem? hy
                  exact getL_some (offers_stands _ _ _) (((offers_keep r1 (itq l) (k + 1) (by rw [LS.out]; have := E2.out; omega)).2 y).2 m1)
                obtain ⟨t, d⟩ := y
                simp only at p0 p1 SZ GT
                have bj7 : (j9 : Int) < (NN : Int) := by omega
                have bj70 : (0 : Int) ≤ (j9 : Int) := by omega
                clear hg hB7 hy
                go_wp2_with fail
                have KY : Hid (Blk (wr.alloc (.cells #[.string t, .int .i64 d] 30)) wr.heap.size 30 #[.string t, .int .i64 d]) := Blk.new _ _ _
                have BY : Hid (Below wr.heap.size wr (wr.alloc (.cells #[.string t, .int .i64 d] 30))) := bel_alloc _ _
                clear p0 p1
                obtain ⟨wy9, rfl⟩ : ∃ wy9, wy9 = wr := ⟨_, rfl⟩
                generalize wy9.alloc (.cells #[.string t, .int .i64 d] 30) = wy at KY BY ⊢
                refine (C.get wy _ _ R _ D4 t (C.since H5.out (bel_trans BI7.out BY.out)) SZ.out).mono ?_
                rintro e u6 ⟨rfl, b6⟩
                have B6 : Hid (Below u5.heap.size u5 u6) := bel_trans BI7.out (bel_trans BY.out b6)
                have x7 : u6.cell? ⟨wy9.heap.size, 1, none⟩ = some (.int .i64 d) := (KY.out.since b6).cell 1
                clear b6
                by_cases le : NN ≤ R
                · rw [GT.out le]
                  simp only [Option.isSome_some, Option.getD_some]
                  have le2 : (NN : Int) ≤ (R : Int) := by omega
                  have dd : (d != d) = false := by simp
                  go_wp2_with fail
                  go_roundg (NN - (j9 + 1))
                  case measure => have := HK7.out; omega
                  case rel => exact ⟨j9 + 1, ⟨rfl, by omega, B6.out⟩, by go_num⟩
                · have le2 : ¬ (NN : Int) ≤ (R : Int) := by omega
                  generalize (getL (offersL R (itq l) (k + 1)) t).isSome = bb
                  generalize (getL (offersL R (itq l) (k + 1)) t).getD 0 = dd
                  go_wp2_with fail
                  go_roundg (NN - (j9 + 1))
                  case measure => have := HK7.out; omega
                  case rel => exact ⟨j9 + 1, ⟨rfl, by omega, B6.out⟩, by go_num⟩
              · have bj7 : ¬ (j9 : Int) < (NN : Int) := by omega
                have H8 : Hid (HP wr w.heap.size (.pointer (some ⟨p, 0, none⟩)) R (offersL R (itq l) (k + 1)) D4) := C.since H5.out hB7
                have O8 : Hid (wr.ownsRow w.heap.size 30 2 (.slice (some ⟨g9, 0, none⟩) NN cap9) NN (lCells L2)) := owns_of O5.out fun q e => hB7.block q (O5.out.lt q e).2
                have B8 : Hid (Below w.heap.size w wr) := bel_trans B5.out hB7
                clear hg hB7
                go_wp2_with fail
                go_roundg (n - (k + 1))
                case measure => have := HK.out; omega
                case rel => exact ⟨k + 1, D4, .slice (some ⟨g9, 0, none⟩) NN cap9, L2, ⟨rfl, by omega, H8.out, B8.out, LS.out.symm, by rw [← E2.out]; exact O8.out, NS.out⟩, rfl, by go_num⟩
    · have bk : ¬ (k : Int) < (n : Int) := by omega
      clear hg hH hBl hL hO hD
      go_wp2_with fail
      refine (hawake_any C _).mono ?_
      rintro e u5 ⟨rfl, b5⟩
      go_wp2_with fail
      go_ret
      exact ⟨rfl, bel_trans BL.out b5⟩
end Go.Proofs.Ytejdfahokbheoaa
