
/-
  ElasticBounds, over the program's contracts: how often a key came lies between both numbers.
-/
import Derived.Test.YtihealembikkiaaElAwake
namespace Go.Proofs.Ytihealembikkiaa
open Go.RowKit Fm Bl Lt El L2 L10 L14 Go.Deep
set_option linter.unusedVariables false
set_option maxRecDepth 20000

theorem bounds_out (C : CtrE) (w : World) (S n room votes R c : Int) (lv : Value) (m : Nat) (Q : Nat → ByteArray) (s : ByteArray) (uS : U S) (hn : I n) (hr : I room) (hv : I votes) (hR : I R) (hc : I c) (h : StrsAt w lv m Q) (hm : m ≤ 9223372036854775807) (hq : ∀ i, i < m → (Q i).size ≤ 9223372036854775807) (sh : shapeE n room votes R c = false) :
    Calls Try.prog 5 #[szv S n room votes R c, lv, .string s] w fun e w' => e = .returned (.bool true) ∧ Below w.heap.size w w' := by
  have BX : Hid (Below w.heap.size w (w.alloc (.cells #[.int .u64 S, .int .i64 n, .int .i64 room, .int .i64 votes, .int .i64 R, .int .i64 c] 60))) := bel_alloc _ _
  have FB := hidE fun u (b : Below w.heap.size w u) => fed_bad C u S n room votes R c lv m Q uS hn hr hv hR hc (h.keep (keep_of_below b)) hm hq sh
  have AW := hidE fun u => eawake_any C u
  clear h hn hr hv hR hc
  unfold szv at FB ⊢
  go_enter Try.func5, Try.ntmps5
  go_wp2_with fail
  refine (FB.out _ BX.out).mono ?_
  rintro e u2 ⟨rfl, b2⟩
  have B2 : Hid (Below w.heap.size w u2) := bel_trans BX.out b2
  clear b2 BX FB
  unfold elz
  go_wp2_with fail
  have B3 : Hid (Below w.heap.size w (u2.alloc (.cells #[.int .u64 0, .int .i64 0, .int .i64 0, .slice none 0 0, .int .u64 0, .int .i64 0, .slice none 0 0] 28))) := bel_trans B2.out (bel_alloc _ _)
  generalize u2.alloc (.cells #[.int .u64 0, .int .i64 0, .int .i64 0, .slice none 0 0, .int .u64 0, .int .i64 0, .slice none 0 0] 28) = u3 at B3 ⊢
  refine (AW.out u3).mono ?_
  rintro e u4 ⟨rfl, b4⟩
  go_wp2_with fail
  go_ret
  exact ⟨rfl, bel_trans B3.out b4⟩
theorem bounds_long (C : CtrE) (w : World) (S votes : Int) (n room R c : Nat) (lv : Value) (m : Nat) (Q : Nat → ByteArray) (s : ByteArray) (uS : U S) (h : StrsAt w lv m Q) (hm : m ≤ 9223372036854775807) (hq : ∀ i, i < m → (Q i).size ≤ 9223372036854775807) (sh : shapeE n room votes R c = true) (hs : ¬ (m ≤ 300 ∧ ∀ i, i < m → (Q i).size ≤ 100)) :
    Calls Try.prog 5 #[szv S n room votes R c, lv, .string s] w fun e w' => e = .returned (.bool true) ∧ Below w.heap.size w w' := by
  have BX : Hid (Below w.heap.size w (w.alloc (.cells #[.int .u64 S, .int .i64 (n : Int), .int .i64 (room : Int), .int .i64 votes, .int .i64 (R : Int), .int .i64 (c : Int)] 60))) := bel_alloc _ _
  have FB := hidE fun u (b : Below w.heap.size w u) => fed_long C u S votes n room R c lv m Q uS (h.keep (keep_of_below b)) hm hq sh hs
  have AW := hidE fun u => eawake_any C u
  clear h hs
  unfold szv at FB ⊢
  go_enter Try.func5, Try.ntmps5
  go_wp2_with fail
  refine (FB.out _ BX.out).mono ?_
  rintro e u2 ⟨a0, c0, a1, c1, rfl, b2⟩
  have B2 : Hid (Below w.heap.size w u2) := bel_trans BX.out b2
  clear b2 BX FB
  go_wp2_with fail
  have B3 : Hid (Below w.heap.size w (u2.alloc (.cells #[.int .u64 S, .int .i64 (room : Int), .int .i64 votes, .slice a0 n c0, .int .u64 (rowF S 1), .int .i64 255, .slice a1 R c1] 28))) := bel_trans B2.out (bel_alloc _ _)
  generalize u2.alloc (.cells #[.int .u64 S, .int .i64 (room : Int), .int .i64 votes, .slice a0 n c0, .int .u64 (rowF S 1), .int .i64 255, .slice a1 R c1] 28) = u3 at B3 ⊢
  refine (AW.out u3).mono ?_
  rintro e u4 ⟨rfl, b4⟩
  go_wp2_with fail
  go_ret
  exact ⟨rfl, bel_trans B3.out b4⟩
/-- What the walk keeps. -/
structure BndIn (w wr : World) (S votes : Int) (n room R c g : Nat) (a0 : Option Addr) (c0 : Nat) (a1 : Option Addr) (c1 : Nat) : Prop where
  since : Below w.heap.size w wr
  sz : Blk wr w.heap.size 60 #[.int .u64 S, .int .i64 (n : Int), .int .i64 (room : Int), .int .i64 votes, .int .i64 (R : Int), .int .i64 (c : Int)]
  sk : Blk wr g 28 #[.int .u64 S, .int .i64 (room : Int), .int .i64 votes, .slice a0 n c0, .int .u64 (rowF S 1), .int .i64 255, .slice a1 R c1]
theorem BndIn.next {w wr u : World} {S votes : Int} {n room R c g : Nat} {a0 : Option Addr} {c0 : Nat} {a1 : Option Addr} {c1 : Nat} (h : BndIn w wr S votes n room R c g a0 c0 a1 c1) (b : Below wr.heap.size wr u) : BndIn w u S votes n room R c g a0 c0 a1 c1 := ⟨bel_trans h.since b, h.sz.since b, h.sk.since b⟩
/-- Another key of a key's cell. -/
def othK (S : Int) (c : Nat) (s : ByteArray) (i : Nat) (k : ByteArray) : Bool := decide (k ≠ s ∧ placeN (rowF S 1) k c i = placeN (rowF S 1) s c i)
set_option maxHeartbeats 8000000 in
set_option maxRecDepth 20000 in
theorem bounds_in (C : CtrE) (w : World) (S votes : Int) (n room R c : Nat) (lv : Value) (m : Nat) (Q : Nat → ByteArray) (s : ByteArray) (uS : U S) (h : StrsAt w lv m Q) (hm : m ≤ 9223372036854775807) (hq : ∀ i, i < m → (Q i).size ≤ 9223372036854775807) (sh : shapeE n room votes R c = true) (hs : m ≤ 300 ∧ ∀ i, i < m → (Q i).size ≤ 100) :
    Calls Try.prog 5 #[szv S n room votes R c, lv, .string s] w fun e w' => e = .returned (.bool true) ∧ Below w.heap.size w w' := by
  have BX : Hid (Below w.heap.size w (w.alloc (.cells #[.int .u64 S, .int .i64 (n : Int), .int .i64 (room : Int), .int .i64 votes, .int .i64 (R : Int), .int .i64 (c : Int)] 60))) := bel_alloc _ _
  have KX : Hid (Blk (w.alloc (.cells #[.int .u64 S, .int .i64 (n : Int), .int .i64 (room : Int), .int .i64 votes, .int .i64 (R : Int), .int .i64 (c : Int)] 60)) w.heap.size 60 #[.int .u64 S, .int .i64 (n : Int), .int .i64 (room : Int), .int .i64 votes, .int .i64 (R : Int), .int .i64 (c : Int)]) := Blk.new _ _ _
  have FB := hidE fun u (b : Below w.heap.size w u) => fed_ok C u S votes n room R c lv m Q uS (h.keep (keep_of_below b)) hm hq sh hs
  have AW := hidE fun u => eawake_any C u
  have SA := hidE h
  have sh2 := sh
  rw [shapeE_iff] at sh2
  have R7 : R ≤ 7 := by omega
  have c1' : 1 ≤ c := by omega
  have c256 : c ≤ 256 := by omega
  have m300 := hs.1
  have HQ := hidE hs.2
  -- what is told
  have pl : ∀ k, placeN S k n 0 < n := fun k => placeN_lt S k n 0 (by omega)
  have inv := feed_inv (votes := votes) (pl := fun s => placeN S s n 0) (room := room) (q := Q) (N := n) (by omega) m (by omega) fun i _ => pl _
  have so := feed_short (N := n) (room := room) (votes := votes) (pl := fun s => placeN S s n 0) (q := Q) m hs.2
  have FF : fedF S votes n room R c Q m = elF S room votes (feedS n room votes (fun s => placeN S s n 0) Q m).bs R c (lightZ (rowF S 1) 255 c (feedS n room votes (fun s => placeN S s n 0) Q m).li) := rfl
  have FFH := hidE FF
  generalize feedS n room votes (fun s => placeN S s n 0) Q m = st at inv so FF FFH
  have ok : OkP 255 R c (lightZ (rowF S 1) 255 c st.li) := lightZ_ok (ok_zero sh) fun x mm => (inv.light x mm).1
  have rt := inv_right inv sh (by omega) ok
  obtain ⟨b, hb⟩ : ∃ b, st.bs[placeN S s n 0]? = some b := ⟨_, List.getElem?_eq_getElem (by rw [inv.len]; exact pl s)⟩
  obtain ⟨lo, hi, ex, fu, hg⟩ : ∃ lo hi ex fu, getE R c (rowF S 1) b (lightZ (rowF S 1) 255 c st.li) s = (lo, hi, ex, fu) := ⟨_, _, _, _, rfl⟩
  obtain ⟨t1, t2, t0, t3, t4, t5⟩ := told_bounds inv ok hb hg
  obtain ⟨cc, hcc⟩ : ∃ cc, cc = cntK Q (fun k => decide (k = s)) m := ⟨_, rfl⟩
  rw [← hcc] at t1 t3 t4 t5
  have cc0 : 0 ≤ cc := by rw [hcc]; exact cntK_nn _ _ _
  have cc1 : cc ≤ 300 := by have := cntK_le Q (fun k => decide (k = s)) m; rw [hcc]; omega
  have GT : Hid (s.size ≤ 100 → ∀ u x, ElAt u x (fedF S votes n room R c Q m) → Calls Try.prog 12 #[x, .string s] u fun e w' => e = .returned (.tuple #[.int .i64 lo, .int .i64 hi, .bool ex, .bool fu]) ∧ Below u.heap.size u w') := fun h1 u x hx => by
    rw [FF] at hx
    exact C.get_ok u x S room votes st.bs R c _ s b lo hi ex fu hx uS rt so h1 (by rw [inv.len]; exact hb) hg
  have MN : Hid (∀ u, StrsAt u lv m Q → Calls Try.prog 24 #[lv, .string s] u fun e w' => e = .returned (.int .i64 cc) ∧ w' = u) := fun u hu => by rw [hcc]; exact emany_any u lv m Q s hu (by omega)
  have T5 := hidE t5
  have hi1 : hi ≤ 9000000000000000000 := by
    by_cases f : fu = false
    · have := t5 0 (by omega) f
      have := cntK_le Q (fun k => decide (k ≠ s ∧ placeN (rowF S 1) k c 0 = placeN (rowF S 1) s c 0)) m
      omega
    · have g1 := getF_le 255 (lightZ (rowF S 1) 255 c st.li) (placeN (rowF S 1) s c) R
      cases ga : atE b.es s with
      | none =>
        rw [getE_no ga] at hg
        simp only [Prod.mk.injEq] at hg
        omega
      | some i =>
        obtain ⟨e, e1, e2⟩ := atE_some ga
        have v := inv.vote hb (List.mem_of_getElem? e1)
        have := cntK_le Q (fun k => decide (k = e.k)) m
        rw [getE_at ga e1] at hg
        split at hg
        · simp only [Prod.mk.injEq] at hg
          omega
        · simp only [Prod.mk.injEq] at hg
          omega
  have hi0 : 0 ≤ hi := by omega
  have SH := hidE sh
  clear h hs sh sh2 inv so ok rt hb hg FF hcc pl t5
  unfold szv at FB ⊢
  go_enter Try.func5, Try.ntmps5
  go_wp2_with fail
  refine (FB.out _ BX.out).mono ?_
  rintro e u2 ⟨a0, c0, a1, c1, rfl, hX, b2⟩
  have B2 : Hid (Below w.heap.size w u2) := bel_trans BX.out b2
  have K2 : Hid (Blk u2 w.heap.size 60 #[.int .u64 S, .int .i64 (n : Int), .int .i64 (room : Int), .int .i64 votes, .int .i64 (R : Int), .int .i64 (c : Int)]) := KX.out.since b2
  have X2 := hidE (hX.at)
  clear b2 BX FB KX hX
  by_cases long : s.size > 100
  · go_wp2_with fail
    have B3 : Hid (Below w.heap.size w (u2.alloc (.cells #[.int .u64 S, .int .i64 (room : Int), .int .i64 votes, .slice a0 n c0, .int .u64 (rowF S 1), .int .i64 255, .slice a1 R c1] 28))) := bel_trans B2.out (bel_alloc _ _)
    generalize u2.alloc (.cells #[.int .u64 S, .int .i64 (room : Int), .int .i64 votes, .slice a0 n c0, .int .u64 (rowF S 1), .int .i64 255, .slice a1 R c1] 28) = u3 at B3 ⊢
    refine (AW.out u3).mono ?_
    rintro e u4 ⟨rfl, b4⟩
    go_wp2_with fail
    go_ret
    exact ⟨rfl, bel_trans B3.out b4⟩
  have G2 := hidE (GT.out (by omega))
  clear GT
  go_wp2_with fail
  have IN : Hid (BndIn w (u2.alloc (.cells #[.int .u64 S, .int .i64 (room : Int), .int .i64 votes, .slice a0 n c0, .int .u64 (rowF S 1), .int .i64 255, .slice a1 R c1] 28)) S votes n room R c u2.heap.size a0 c0 a1 c1) := ⟨bel_trans B2.out (bel_alloc _ _), K2.out.alloc _, Blk.new _ _ _⟩
  have X3 : Hid (ElAt (u2.alloc (.cells #[.int .u64 S, .int .i64 (room : Int), .int .i64 votes, .slice a0 n c0, .int .u64 (rowF S 1), .int .i64 255, .slice a1 R c1] 28)) (.agg #[.int .u64 S, .int .i64 (room : Int), .int .i64 votes, .slice a0 n c0, .int .u64 (rowF S 1), .int .i64 255, .slice a1 R c1]) (fedF S votes n room R c Q m)) := X2.out.keep (keep_of_below (bel_alloc _ _))
  clear B2 K2 X2
  generalize u2.alloc (.cells #[.int .u64 S, .int .i64 (room : Int), .int .i64 votes, .slice a0 n c0, .int .u64 (rowF S 1), .int .i64 255, .slice a1 R c1] 28) = u3 at IN X3 ⊢
  generalize u2.heap.size = g at IN ⊢
  refine (G2.out u3 _ X3.out).mono ?_
  rintro e u4 ⟨rfl, b4⟩
  have IN4 := hidE (IN.out.next b4)
  clear b4 IN X3 G2
  have SA4 := hidE (SA.out.keep (keep_of_below IN4.out.since))
  go_wp2_with fail
  refine (MN.out u4 SA4.out).mono ?_
  rintro e u5 ⟨rfl, rfl⟩
  clear SA4 MN
  have n1 : ¬ lo > cc := by omega
  have n2 : ¬ lo > hi := by omega
  cases fu with
  | false =>
    have n3 : ¬ hi < cc := by have := t3 rfl; omega
    cases ex with
    | false =>
      clear t3 t4
      go_wp2_with fail
      go_loopg [14] R (fun gk i wr => ∃ k : Nat, (gk = R - k ∧ k ≤ R ∧ BndIn w wr S votes n room R c g a0 c0 a1 c1) ∧ i = .int .i64 (k : Int))
      case atStart => exact ⟨0, ⟨rfl, by omega, IN4.out⟩, rfl⟩
      case round =>
        clear IN4
        obtain ⟨k, ⟨hgk, hk, hI⟩, rfl⟩ := hrel
        have IK := hidE hI
        have HG := hidE hgk
        clear hI hgk
        have z4 : wr.cell? ⟨w.heap.size, 4, none⟩ = some (.int .i64 (R : Int)) := IK.out.sz.cell 4
        by_cases kz : k < R
        · have bk : (k : Int) < (R : Int) := by omega
          have bk0 : (0 : Int) ≤ (k : Int) := by omega
          obtain ⟨A, cap, lb, lo', hlv, hcap, hA, hL⟩ := SA.out
          have HA := hidE hA
          have HLc := hidE hL
          subst hlv
          clear hA hL
          go_wp2_with fail
          clear z4
          go_loopg [15, 85] m (fun gj o j wi => ∃ (t : Nat) (ov : Int), (gj = m - t ∧ t ≤ m ∧ ov = cntK Q (othK S c s k) t ∧ BndIn w wi S votes n room R c g a0 c0 a1 c1) ∧ o = .int .i64 ov ∧ j = .int .i64 (t : Int))
          case atStart => exact ⟨0, 0, ⟨rfl, by omega, rfl, IK.out⟩, rfl, rfl⟩
          case round =>
            clear IK
            obtain ⟨t, ov, ⟨hgj, ht, hov, hI⟩, rfl, rfl⟩ := hrel
            have IK := hidE hI
            have HJ := hidE hgj
            have HO := hidE hov
            have ov0 : 0 ≤ ov := by rw [hov]; exact cntK_nn _ _ _
            have ov1 : ov ≤ (t : Int) := by rw [hov]; exact cntK_le _ _ _
            clear hI hgj hov
            by_cases tz : t < m
            · obtain rfl := HA.out (by omega)
              have bt : (t : Int) < (m : Int) := by omega
              have bt0 : (0 : Int) ≤ (t : Int) := by omega
              obtain ⟨kk, hkk⟩ : ∃ kk, kk = Q t := ⟨_, rfl⟩
              have cl : wr.cell? ⟨lb, lo' + t, none⟩ = some (.string kk) := by rw [hkk]; exact keep_of_below IK.out.since _ _ (HLc.out t tz)
              have ks : kk.size ≤ 100 := by rw [hkk]; exact HQ.out t tz
              have KK := hidE hkk
              clear hkk
              by_cases e : kk = s
              · have q : (kk.toList == s.toList) = true := by rw [str_eq, decide_eq_true e]
                have q2 : (kk.toList != s.toList) = false := by simp [bne, q]
                have HE := hidE e
                clear e
                go_wp2_with fail
                clear cl
                refine letterQ ?_
                intro QQ hQQ
                have Z0 : Hid (BndIn w wr.drew S votes n room R c g a0 c0 a1 c1) := IK.out.next (Below.refl _ _).drew
                refine wp_region_held_drew (S := fun w2 => BndIn w w2 S votes n room R c g a0 c0 a1 c1) (by kernel_rfl) Z0.out (fun hHeld => ?_)
                clear hHeld
                generalize wr.drew = q0 at Z0 ⊢
                refine wpAnyH_take (i := 0) (v := ?_) rfl (by kernel_rfl) (by kernel_rfl) (by kernel_rfl) (fun _ _ _ h => h) (Or.inl ⟨by rfl, ?_⟩) Z0.out ?_
                rotate_left
                · intro wq hSw; go_simp; first | done | with_reducible rfl
                simp only [List.getElem_toArray, List.getElem_cons_zero, Act.put, List.setIfInBounds_toArray, List.set_cons_zero, List.set_cons_succ]
                refine wpAnyH_take (i := 1) (v := ?_) rfl (by kernel_rfl) (by kernel_rfl) (by kernel_rfl) (fun _ _ _ h => h) (Or.inl ⟨by rfl, ?_⟩) Z0.out ?_
                rotate_left
                · intro wq hSw; go_simp; first | done | with_reducible rfl
                simp only [List.getElem_toArray, List.getElem_cons_zero, List.getElem_cons_succ, Act.put, List.setIfInBounds_toArray, List.set_cons_zero, List.set_cons_succ]
                refine wpAnyH_take (i := 2) (v := ?_) rfl (by kernel_rfl) (by kernel_rfl) (by kernel_rfl) (fun _ _ _ h => h) (Or.inl ⟨by rfl, ?_⟩) Z0.out ?_
                rotate_left
                · intro wq hSw; go_simp; first | done | with_reducible rfl
                simp only [List.getElem_toArray, List.getElem_cons_zero, List.getElem_cons_succ, Act.put, List.setIfInBounds_toArray, List.set_cons_zero, List.set_cons_succ]
                refine wpAnyH_take (i := 3) (v := ?_) rfl (by kernel_rfl) (by kernel_rfl) (by kernel_rfl) (fun _ _ _ h => h) (Or.inl ⟨by rfl, ?_⟩) Z0.out ?_
                rotate_left
                · intro wq hSw; go_simp; first | done | with_reducible rfl
                simp only [List.getElem_toArray, List.getElem_cons_zero, List.getElem_cons_succ, Act.put, List.setIfInBounds_toArray, List.set_cons_zero, List.set_cons_succ]
                refine wpAnyH_take (i := 4) (v := undef) rfl (by kernel_rfl) (by kernel_rfl) (by kernel_rfl) (fun _ _ _ h => h) (Or.inr ⟨by rfl, rfl⟩) Z0.out ?_
                simp only [List.getElem_toArray, List.getElem_cons_zero, List.getElem_cons_succ, Act.put, List.setIfInBounds_toArray, List.set_cons_zero, List.set_cons_succ]
                refine wpAnyH_take (i := 5) (v := undef) rfl (by kernel_rfl) (by kernel_rfl) (by kernel_rfl) (fun _ _ _ h => h) (Or.inr ⟨by rfl, rfl⟩) Z0.out ?_
                simp only [List.getElem_toArray, List.getElem_cons_zero, List.getElem_cons_succ, Act.put, List.setIfInBounds_toArray, List.set_cons_zero, List.set_cons_succ]
                refine wpAnyH_take (i := 6) (v := undef) rfl (by kernel_rfl) (by kernel_rfl) (by kernel_rfl) (fun _ _ _ h => h) (Or.inr ⟨by rfl, rfl⟩) Z0.out ?_
                simp only [List.getElem_toArray, List.getElem_cons_zero, List.getElem_cons_succ, Act.put, List.setIfInBounds_toArray, List.set_cons_zero, List.set_cons_succ]
                refine wpAnyH_take (i := 7) (v := undef) rfl (by kernel_rfl) (by kernel_rfl) (by kernel_rfl) (fun _ _ _ h => h) (Or.inr ⟨by rfl, rfl⟩) Z0.out ?_
                simp only [List.getElem_toArray, List.getElem_cons_zero, List.getElem_cons_succ, Act.put, List.setIfInBounds_toArray, List.set_cons_zero, List.set_cons_succ]
                refine wpAnyH_take (i := 8) (v := undef) rfl (by kernel_rfl) (by kernel_rfl) (by kernel_rfl) (fun _ _ _ h => h) (Or.inr ⟨by rfl, rfl⟩) Z0.out ?_
                simp only [List.getElem_toArray, List.getElem_cons_zero, List.getElem_cons_succ, Act.put, List.setIfInBounds_toArray, List.set_cons_zero, List.set_cons_succ]
                refine wpAnyH_take (i := 9) (v := undef) rfl (by kernel_rfl) (by kernel_rfl) (by kernel_rfl) (fun _ _ _ h => h) (Or.inr ⟨by rfl, rfl⟩) Z0.out ?_
                simp only [List.getElem_toArray, List.getElem_cons_zero, List.getElem_cons_succ, Act.put, List.setIfInBounds_toArray, List.set_cons_zero, List.set_cons_succ]
                refine wpAnyH_take (i := 10) (v := undef) rfl (by kernel_rfl) (by kernel_rfl) (by kernel_rfl) (fun _ _ _ h => h) (Or.inr ⟨by rfl, rfl⟩) Z0.out ?_
                simp only [List.getElem_toArray, List.getElem_cons_zero, List.getElem_cons_succ, Act.put, List.setIfInBounds_toArray, List.set_cons_zero, List.set_cons_succ]
                refine wpAnyH_take (i := 11) (v := undef) rfl (by kernel_rfl) (by kernel_rfl) (by kernel_rfl) (fun _ _ _ h => h) (Or.inr ⟨by rfl, rfl⟩) Z0.out ?_
                simp only [List.getElem_toArray, List.getElem_cons_zero, List.getElem_cons_succ, Act.put, List.setIfInBounds_toArray, List.set_cons_zero, List.set_cons_succ]
                refine wpAnyH_take (i := 12) (v := undef) rfl (by kernel_rfl) (by kernel_rfl) (by kernel_rfl) (fun _ _ _ h => h) (Or.inr ⟨by rfl, rfl⟩) Z0.out ?_
                simp only [List.getElem_toArray, List.getElem_cons_zero, List.getElem_cons_succ, Act.put, List.setIfInBounds_toArray, List.set_cons_zero, List.set_cons_succ]
                refine wpAnyH_take (i := 13) (v := undef) rfl (by kernel_rfl) (by kernel_rfl) (by kernel_rfl) (fun _ _ _ h => h) (Or.inr ⟨by rfl, rfl⟩) Z0.out ?_
                simp only [List.getElem_toArray, List.getElem_cons_zero, List.getElem_cons_succ, Act.put, List.setIfInBounds_toArray, List.set_cons_zero, List.set_cons_succ]
                refine wpAnyH_take (i := 14) (v := undef) rfl (by kernel_rfl) (by kernel_rfl) (by kernel_rfl) (fun _ _ _ h => h) (Or.inr ⟨by rfl, rfl⟩) Z0.out ?_
                simp only [List.getElem_toArray, List.getElem_cons_zero, List.getElem_cons_succ, Act.put, List.setIfInBounds_toArray, List.set_cons_zero, List.set_cons_succ]
                refine wpAnyH_take (i := 15) (v := undef) rfl (by kernel_rfl) (by kernel_rfl) (by kernel_rfl) (fun _ _ _ h => h) (Or.inr ⟨by rfl, rfl⟩) Z0.out ?_
                simp only [List.getElem_toArray, List.getElem_cons_zero, List.getElem_cons_succ, Act.put, List.setIfInBounds_toArray, List.set_cons_zero, List.set_cons_succ]
                refine wpAnyH_take (i := 16) (v := undef) rfl (by kernel_rfl) (by kernel_rfl) (by kernel_rfl) (fun _ _ _ h => h) (Or.inr ⟨by rfl, rfl⟩) Z0.out ?_
                simp only [List.getElem_toArray, List.getElem_cons_zero, List.getElem_cons_succ, Act.put, List.setIfInBounds_toArray, List.set_cons_zero, List.set_cons_succ]
                refine wpAnyH_take (i := 17) (v := undef) rfl (by kernel_rfl) (by kernel_rfl) (by kernel_rfl) (fun _ _ _ h => h) (Or.inr ⟨by rfl, rfl⟩) Z0.out ?_
                simp only [List.getElem_toArray, List.getElem_cons_zero, List.getElem_cons_succ, Act.put, List.setIfInBounds_toArray, List.set_cons_zero, List.set_cons_succ]
                refine wpAnyH_take (i := 18) (v := undef) rfl (by kernel_rfl) (by kernel_rfl) (by kernel_rfl) (fun _ _ _ h => h) (Or.inr ⟨by rfl, rfl⟩) Z0.out ?_
                simp only [List.getElem_toArray, List.getElem_cons_zero, List.getElem_cons_succ, Act.put, List.setIfInBounds_toArray, List.set_cons_zero, List.set_cons_succ]
                refine wpAnyH_take (i := 19) (v := undef) rfl (by kernel_rfl) (by kernel_rfl) (by kernel_rfl) (fun _ _ _ h => h) (Or.inr ⟨by rfl, rfl⟩) Z0.out ?_
                simp only [List.getElem_toArray, List.getElem_cons_zero, List.getElem_cons_succ, Act.put, List.setIfInBounds_toArray, List.set_cons_zero, List.set_cons_succ]
                refine wpAnyH_take (i := 20) (v := undef) rfl (by kernel_rfl) (by kernel_rfl) (by kernel_rfl) (fun _ _ _ h => h) (Or.inr ⟨by rfl, rfl⟩) Z0.out ?_
                simp only [List.getElem_toArray, List.getElem_cons_zero, List.getElem_cons_succ, Act.put, List.setIfInBounds_toArray, List.set_cons_zero, List.set_cons_succ]
                refine wpAnyH_take (i := 21) (v := ?_) rfl (by kernel_rfl) (by kernel_rfl) (by kernel_rfl) (fun _ _ _ h => h) (Or.inl ⟨by rfl, ?_⟩) Z0.out ?_
                rotate_left
                · intro wq hSw; go_simp; first | done | with_reducible rfl
                simp only [List.getElem_toArray, List.getElem_cons_zero, List.getElem_cons_succ, Act.put, List.setIfInBounds_toArray, List.set_cons_zero, List.set_cons_succ]
                refine wpAnyH_done (by kernel_rfl) ?_ _
                refine NoPanic.normal ?_
                refine hQQ.out _ _ ?_
                clear hQQ
                go_wp2_with fail
                go_roundg (m - (t + 1))
                case measure => have := HJ.out; omega
                case rel => exact ⟨t + 1, ov, ⟨rfl, by omega, by rw [cntK, ← HO.out, ← KK.out, if_neg (by unfold othK; simp [HE.out]), Int.add_zero], Z0.out⟩, rfl, by go_num⟩
              · have q : (kk.toList == s.toList) = false := by rw [str_eq, decide_eq_false e]
                have q2 : (kk.toList != s.toList) = true := by simp [bne, q]
                have HE := hidE e
                clear e
                obtain ⟨p1, hp1⟩ : ∃ p1, p1 = placeN (rowF S 1) kk c k := ⟨_, rfl⟩
                obtain ⟨p2, hp2⟩ : ∃ p2, p2 = placeN (rowF S 1) s c k := ⟨_, rfl⟩
                have C1 : Hid (∀ u, Calls Try.prog 25 #[.int .u64 (rowF S 1), .string kk, .int .i64 (k : Int), .int .i64 (c : Int)] u fun e w' => e = .returned (.int .i64 (p1 : Int)) ∧ Below u.heap.size u w') := fun u => by rw [hp1]; exact rlcell_any (rowF S 1) kk k c u (rowF_U S 1) (by omega) (by omega) c1' (by omega)
                have C2 : Hid (∀ u, Calls Try.prog 25 #[.int .u64 (rowF S 1), .string s, .int .i64 (k : Int), .int .i64 (c : Int)] u fun e w' => e = .returned (.int .i64 (p2 : Int)) ∧ Below u.heap.size u w') := fun u => by rw [hp2]; exact rlcell_any (rowF S 1) s k c u (rowF_U S 1) (by omega) (by omega) c1' (by omega)
                have HP := hidE (And.intro hp1 hp2)
                clear hp1 hp2
                by_cases pe : p1 = p2
                · have qp : ((p1 : Int) == (p2 : Int)) = true := by rw [pe]; simp
                  have PE := hidE pe
                  clear pe
                  go_wp2_with fail
                  clear cl
                  refine letterQ ?_
                  intro QQ hQQ
                  have Z0 : Hid (BndIn w wr.drew S votes n room R c g a0 c0 a1 c1) := IK.out.next (Below.refl _ _).drew
                  refine wp_region_held_drew (S := fun w2 => BndIn w w2 S votes n room R c g a0 c0 a1 c1) (by kernel_rfl) Z0.out (fun hHeld => ?_)
                  clear hHeld
                  generalize wr.drew = q0 at Z0 ⊢
                  refine wpAnyH_take (i := 0) (v := ?_) rfl (by kernel_rfl) (by kernel_rfl) (by kernel_rfl) (fun _ _ _ h => h) (Or.inl ⟨by rfl, ?_⟩) Z0.out ?_
                  rotate_left
                  · intro wq hSw; go_simp; first | done | with_reducible rfl
                  simp only [List.getElem_toArray, List.getElem_cons_zero, Act.put, List.setIfInBounds_toArray, List.set_cons_zero, List.set_cons_succ]
                  refine wpAnyH_take (i := 1) (v := ?_) rfl (by kernel_rfl) (by kernel_rfl) (by kernel_rfl) (fun _ _ _ h => h) (Or.inl ⟨by rfl, ?_⟩) Z0.out ?_
                  rotate_left
                  · intro wq hSw; go_simp; first | done | with_reducible rfl
                  simp only [List.getElem_toArray, List.getElem_cons_zero, List.getElem_cons_succ, Act.put, List.setIfInBounds_toArray, List.set_cons_zero, List.set_cons_succ]
                  refine wpAnyH_take (i := 2) (v := ?_) rfl (by kernel_rfl) (by kernel_rfl) (by kernel_rfl) (fun _ _ _ h => h) (Or.inl ⟨by rfl, ?_⟩) Z0.out ?_
                  rotate_left
                  · intro wq hSw; go_simp; first | done | with_reducible rfl
                  simp only [List.getElem_toArray, List.getElem_cons_zero, List.getElem_cons_succ, Act.put, List.setIfInBounds_toArray, List.set_cons_zero, List.set_cons_succ]
                  refine wpAnyH_take (i := 3) (v := ?_) rfl (by kernel_rfl) (by kernel_rfl) (by kernel_rfl) (fun _ _ _ h => h) (Or.inl ⟨by rfl, ?_⟩) Z0.out ?_
                  rotate_left
                  · intro wq hSw; go_simp; first | done | with_reducible rfl
                  simp only [List.getElem_toArray, List.getElem_cons_zero, List.getElem_cons_succ, Act.put, List.setIfInBounds_toArray, List.set_cons_zero, List.set_cons_succ]
                  refine wpAnyH_take (i := 4) (v := ?_) rfl (by kernel_rfl) (by kernel_rfl) (by kernel_rfl) (fun _ _ _ h => h) (Or.inl ⟨by rfl, ?_⟩) Z0.out ?_
                  rotate_left
                  · intro wq hSw; go_simp; first | done | with_reducible rfl
                  simp only [List.getElem_toArray, List.getElem_cons_zero, List.getElem_cons_succ, Act.put, List.setIfInBounds_toArray, List.set_cons_zero, List.set_cons_succ]
                  refine wpAnyH_take (i := 5) (v := ?_) rfl (by kernel_rfl) (by kernel_rfl) (by kernel_rfl) (fun _ _ _ h => h) (Or.inl ⟨by rfl, ?_⟩) Z0.out ?_
                  rotate_left
                  · intro wq hSw; go_simp; first | done | with_reducible rfl
                  simp only [List.getElem_toArray, List.getElem_cons_zero, List.getElem_cons_succ, Act.put, List.setIfInBounds_toArray, List.set_cons_zero, List.set_cons_succ]
                  refine wpAnyH_take (i := 6) (v := ?_) rfl (by kernel_rfl) (by kernel_rfl) (by kernel_rfl) (fun _ _ _ h => h) (Or.inl ⟨by rfl, ?_⟩) Z0.out ?_
                  rotate_left
                  · intro wq hSw; have cl0 := hSw.sk.cell 4; go_simp; first | done | with_reducible rfl
                  simp only [List.getElem_toArray, List.getElem_cons_zero, List.getElem_cons_succ, Act.put, List.setIfInBounds_toArray, List.set_cons_zero, List.set_cons_succ]
                  refine wpAnyH_take (i := 7) (v := ?_) rfl (by kernel_rfl) (by kernel_rfl) (by kernel_rfl) (fun _ _ _ h => h) (Or.inl ⟨by rfl, ?_⟩) Z0.out ?_
                  rotate_left
                  · intro wq hSw; go_simp; first | done | with_reducible rfl
                  simp only [List.getElem_toArray, List.getElem_cons_zero, List.getElem_cons_succ, Act.put, List.setIfInBounds_toArray, List.set_cons_zero, List.set_cons_succ]
                  refine wpAnyH_take (i := 8) (v := ?_) rfl (by kernel_rfl) (by kernel_rfl) (by kernel_rfl) (fun _ _ _ h => h) (Or.inl ⟨by rfl, ?_⟩) Z0.out ?_
                  rotate_left
                  · intro wq hSw; go_simp; first | done | with_reducible rfl
                  simp only [List.getElem_toArray, List.getElem_cons_zero, List.getElem_cons_succ, Act.put, List.setIfInBounds_toArray, List.set_cons_zero, List.set_cons_succ]
                  refine wpAnyH_take (i := 9) (v := ?_) rfl (by kernel_rfl) (by kernel_rfl) (by kernel_rfl) (fun _ _ _ h => h) (Or.inl ⟨by rfl, ?_⟩) Z0.out ?_
                  rotate_left
                  · intro wq hSw; go_simp; first | done | with_reducible rfl
                  simp only [List.getElem_toArray, List.getElem_cons_zero, List.getElem_cons_succ, Act.put, List.setIfInBounds_toArray, List.set_cons_zero, List.set_cons_succ]
                  refine wpAnyH_take (i := 10) (v := ?_) rfl (by kernel_rfl) (by kernel_rfl) (by kernel_rfl) (fun _ _ _ h => h) (Or.inl ⟨by rfl, ?_⟩) Z0.out ?_
                  rotate_left
                  · intro wq hSw; have cl0 := hSw.sz.cell 5; go_simp; first | done | with_reducible rfl
                  simp only [List.getElem_toArray, List.getElem_cons_zero, List.getElem_cons_succ, Act.put, List.setIfInBounds_toArray, List.set_cons_zero, List.set_cons_succ]
                  refine wpAnyH_take (i := 12) (v := ?_) rfl (by kernel_rfl) (by kernel_rfl) (by kernel_rfl) (fun _ _ _ h => h) (Or.inl ⟨by rfl, ?_⟩) Z0.out ?_
                  rotate_left
                  · intro wq hSw; go_simp; first | done | with_reducible rfl
                  simp only [List.getElem_toArray, List.getElem_cons_zero, List.getElem_cons_succ, Act.put, List.setIfInBounds_toArray, List.set_cons_zero, List.set_cons_succ]
                  refine wpAnyH_take (i := 13) (v := ?_) rfl (by kernel_rfl) (by kernel_rfl) (by kernel_rfl) (fun _ _ _ h => h) (Or.inl ⟨by rfl, ?_⟩) Z0.out ?_
                  rotate_left
                  · intro wq hSw; go_simp; first | done | with_reducible rfl
                  simp only [List.getElem_toArray, List.getElem_cons_zero, List.getElem_cons_succ, Act.put, List.setIfInBounds_toArray, List.set_cons_zero, List.set_cons_succ]
                  refine wpAnyH_take (i := 14) (v := ?_) rfl (by kernel_rfl) (by kernel_rfl) (by kernel_rfl) (fun _ _ _ h => h) (Or.inl ⟨by rfl, ?_⟩) Z0.out ?_
                  rotate_left
                  · intro wq hSw; have cl0 := hSw.sk.cell 4; go_simp; first | done | with_reducible rfl
                  simp only [List.getElem_toArray, List.getElem_cons_zero, List.getElem_cons_succ, Act.put, List.setIfInBounds_toArray, List.set_cons_zero, List.set_cons_succ]
                  refine wpAnyH_take (i := 15) (v := ?_) rfl (by kernel_rfl) (by kernel_rfl) (by kernel_rfl) (fun _ _ _ h => h) (Or.inl ⟨by rfl, ?_⟩) Z0.out ?_
                  rotate_left
                  · intro wq hSw; go_simp; first | done | with_reducible rfl
                  simp only [List.getElem_toArray, List.getElem_cons_zero, List.getElem_cons_succ, Act.put, List.setIfInBounds_toArray, List.set_cons_zero, List.set_cons_succ]
                  refine wpAnyH_take (i := 16) (v := ?_) rfl (by kernel_rfl) (by kernel_rfl) (by kernel_rfl) (fun _ _ _ h => h) (Or.inl ⟨by rfl, ?_⟩) Z0.out ?_
                  rotate_left
                  · intro wq hSw; go_simp; first | done | with_reducible rfl
                  simp only [List.getElem_toArray, List.getElem_cons_zero, List.getElem_cons_succ, Act.put, List.setIfInBounds_toArray, List.set_cons_zero, List.set_cons_succ]
                  refine wpAnyH_take (i := 17) (v := ?_) rfl (by kernel_rfl) (by kernel_rfl) (by kernel_rfl) (fun _ _ _ h => h) (Or.inl ⟨by rfl, ?_⟩) Z0.out ?_
                  rotate_left
                  · intro wq hSw; go_simp; first | done | with_reducible rfl
                  simp only [List.getElem_toArray, List.getElem_cons_zero, List.getElem_cons_succ, Act.put, List.setIfInBounds_toArray, List.set_cons_zero, List.set_cons_succ]
                  refine wpAnyH_take (i := 18) (v := ?_) rfl (by kernel_rfl) (by kernel_rfl) (by kernel_rfl) (fun _ _ _ h => h) (Or.inl ⟨by rfl, ?_⟩) Z0.out ?_
                  rotate_left
                  · intro wq hSw; have cl0 := hSw.sz.cell 5; go_simp; first | done | with_reducible rfl
                  simp only [List.getElem_toArray, List.getElem_cons_zero, List.getElem_cons_succ, Act.put, List.setIfInBounds_toArray, List.set_cons_zero, List.set_cons_succ]
                  refine wpAnyH_ready (rs := [11]) (by kernel_rfl) (by simp) ?_
                  refine AllReadyH.cons rfl (fun K0 hK0 => ?_) ?_
                  rotate_left
                  · exact AllReadyH.nil
                  refine step_func 25 #[.int .u64 (rowF S 1), .string kk, .int .i64 (k : Int), .int .i64 (c : Int)] (by rfl) rfl (by simp [Act.eval]) (fun _ _ => by kernel_rfl) ?_
                  refine (C1.out _).mono ?_
                  rintro e v1 ⟨rfl, b1⟩
                  have Z1 := hidE (Z0.out.next b1)
                  clear b1
                  refine ⟨_, rfl, ?_⟩
                  refine hK0.out _ _ (by exact Z1.out) (fun hHeld => ?_)
                  clear hK0 K0 hHeld
                  simp only [Act.put, List.setIfInBounds_toArray]
                  refine wpAnyH_ready (rs := [19]) (by kernel_rfl) (by simp) ?_
                  refine AllReadyH.cons rfl (fun K0 hK0 => ?_) ?_
                  rotate_left
                  · exact AllReadyH.nil
                  refine step_func 25 #[.int .u64 (rowF S 1), .string s, .int .i64 (k : Int), .int .i64 (c : Int)] (by rfl) rfl (by simp [Act.eval]) (fun _ _ => by kernel_rfl) ?_
                  refine (C2.out _).mono ?_
                  rintro e v2 ⟨rfl, b2⟩
                  have Z2 := hidE (Z1.out.next b2)
                  clear b2
                  refine ⟨_, rfl, ?_⟩
                  refine hK0.out _ _ (by exact Z2.out) (fun hHeld => ?_)
                  clear hK0 K0 hHeld
                  simp only [Act.put]
                  refine wpAnyH_take (i := 20) (v := ?_) rfl (by kernel_rfl) (by kernel_rfl) (by kernel_rfl) (fun _ _ _ h => h) (Or.inl ⟨by rfl, ?_⟩) Z2.out ?_
                  rotate_left
                  · intro wq hSw; go_simp; first | done | with_reducible rfl
                  simp only [List.getElem_toArray, List.getElem_cons_zero, List.getElem_cons_succ, Act.put, List.setIfInBounds_toArray, List.set_cons_zero, List.set_cons_succ]
                  refine wpAnyH_take (i := 21) (v := ?_) rfl (by kernel_rfl) (by kernel_rfl) (by kernel_rfl) (fun _ _ _ h => h) (Or.inl ⟨by rfl, ?_⟩) Z2.out ?_
                  rotate_left
                  · intro wq hSw; go_simp; first | done | with_reducible rfl
                  simp only [List.getElem_toArray, List.getElem_cons_zero, List.getElem_cons_succ, Act.put, List.setIfInBounds_toArray, List.set_cons_zero, List.set_cons_succ]
                  refine wpAnyH_done (by kernel_rfl) ?_ _
                  refine NoPanic.normal ?_
                  refine hQQ.out _ _ ?_
                  clear hQQ
                  go_wp2_with fail
                  go_roundg (m - (t + 1))
                  case measure => have := HJ.out; omega
                  case rel => exact ⟨t + 1, ov + 1, ⟨rfl, by omega, by rw [cntK, ← HO.out, ← KK.out, if_pos (by unfold othK; rw [← HP.out.1, ← HP.out.2]; simp [PE.out, HE.out])], Z2.out⟩, by go_num, by go_num⟩
                · have qp : ((p1 : Int) == (p2 : Int)) = false := by simp; omega
                  have PE := hidE pe
                  clear pe
                  go_wp2_with fail
                  clear cl
                  refine letterQ ?_
                  intro QQ hQQ
                  have Z0 : Hid (BndIn w wr.drew S votes n room R c g a0 c0 a1 c1) := IK.out.next (Below.refl _ _).drew
                  refine wp_region_held_drew (S := fun w2 => BndIn w w2 S votes n room R c g a0 c0 a1 c1) (by kernel_rfl) Z0.out (fun hHeld => ?_)
                  clear hHeld
                  generalize wr.drew = q0 at Z0 ⊢
                  refine wpAnyH_take (i := 0) (v := ?_) rfl (by kernel_rfl) (by kernel_rfl) (by kernel_rfl) (fun _ _ _ h => h) (Or.inl ⟨by rfl, ?_⟩) Z0.out ?_
                  rotate_left
                  · intro wq hSw; go_simp; first | done | with_reducible rfl
                  simp only [List.getElem_toArray, List.getElem_cons_zero, Act.put, List.setIfInBounds_toArray, List.set_cons_zero, List.set_cons_succ]
                  refine wpAnyH_take (i := 1) (v := ?_) rfl (by kernel_rfl) (by kernel_rfl) (by kernel_rfl) (fun _ _ _ h => h) (Or.inl ⟨by rfl, ?_⟩) Z0.out ?_
                  rotate_left
                  · intro wq hSw; go_simp; first | done | with_reducible rfl
                  simp only [List.getElem_toArray, List.getElem_cons_zero, List.getElem_cons_succ, Act.put, List.setIfInBounds_toArray, List.set_cons_zero, List.set_cons_succ]
                  refine wpAnyH_take (i := 2) (v := ?_) rfl (by kernel_rfl) (by kernel_rfl) (by kernel_rfl) (fun _ _ _ h => h) (Or.inl ⟨by rfl, ?_⟩) Z0.out ?_
                  rotate_left
                  · intro wq hSw; go_simp; first | done | with_reducible rfl
                  simp only [List.getElem_toArray, List.getElem_cons_zero, List.getElem_cons_succ, Act.put, List.setIfInBounds_toArray, List.set_cons_zero, List.set_cons_succ]
                  refine wpAnyH_take (i := 3) (v := ?_) rfl (by kernel_rfl) (by kernel_rfl) (by kernel_rfl) (fun _ _ _ h => h) (Or.inl ⟨by rfl, ?_⟩) Z0.out ?_
                  rotate_left
                  · intro wq hSw; go_simp; first | done | with_reducible rfl
                  simp only [List.getElem_toArray, List.getElem_cons_zero, List.getElem_cons_succ, Act.put, List.setIfInBounds_toArray, List.set_cons_zero, List.set_cons_succ]
                  refine wpAnyH_take (i := 4) (v := ?_) rfl (by kernel_rfl) (by kernel_rfl) (by kernel_rfl) (fun _ _ _ h => h) (Or.inl ⟨by rfl, ?_⟩) Z0.out ?_
                  rotate_left
                  · intro wq hSw; go_simp; first | done | with_reducible rfl
                  simp only [List.getElem_toArray, List.getElem_cons_zero, List.getElem_cons_succ, Act.put, List.setIfInBounds_toArray, List.set_cons_zero, List.set_cons_succ]
                  refine wpAnyH_take (i := 5) (v := ?_) rfl (by kernel_rfl) (by kernel_rfl) (by kernel_rfl) (fun _ _ _ h => h) (Or.inl ⟨by rfl, ?_⟩) Z0.out ?_
                  rotate_left
                  · intro wq hSw; go_simp; first | done | with_reducible rfl
                  simp only [List.getElem_toArray, List.getElem_cons_zero, List.getElem_cons_succ, Act.put, List.setIfInBounds_toArray, List.set_cons_zero, List.set_cons_succ]
                  refine wpAnyH_take (i := 6) (v := ?_) rfl (by kernel_rfl) (by kernel_rfl) (by kernel_rfl) (fun _ _ _ h => h) (Or.inl ⟨by rfl, ?_⟩) Z0.out ?_
                  rotate_left
                  · intro wq hSw; have cl0 := hSw.sk.cell 4; go_simp; first | done | with_reducible rfl
                  simp only [List.getElem_toArray, List.getElem_cons_zero, List.getElem_cons_succ, Act.put, List.setIfInBounds_toArray, List.set_cons_zero, List.set_cons_succ]
                  refine wpAnyH_take (i := 7) (v := ?_) rfl (by kernel_rfl) (by kernel_rfl) (by kernel_rfl) (fun _ _ _ h => h) (Or.inl ⟨by rfl, ?_⟩) Z0.out ?_
                  rotate_left
                  · intro wq hSw; go_simp; first | done | with_reducible rfl
                  simp only [List.getElem_toArray, List.getElem_cons_zero, List.getElem_cons_succ, Act.put, List.setIfInBounds_toArray, List.set_cons_zero, List.set_cons_succ]
                  refine wpAnyH_take (i := 8) (v := ?_) rfl (by kernel_rfl) (by kernel_rfl) (by kernel_rfl) (fun _ _ _ h => h) (Or.inl ⟨by rfl, ?_⟩) Z0.out ?_
                  rotate_left
                  · intro wq hSw; go_simp; first | done | with_reducible rfl
                  simp only [List.getElem_toArray, List.getElem_cons_zero, List.getElem_cons_succ, Act.put, List.setIfInBounds_toArray, List.set_cons_zero, List.set_cons_succ]
                  refine wpAnyH_take (i := 9) (v := ?_) rfl (by kernel_rfl) (by kernel_rfl) (by kernel_rfl) (fun _ _ _ h => h) (Or.inl ⟨by rfl, ?_⟩) Z0.out ?_
                  rotate_left
                  · intro wq hSw; go_simp; first | done | with_reducible rfl
                  simp only [List.getElem_toArray, List.getElem_cons_zero, List.getElem_cons_succ, Act.put, List.setIfInBounds_toArray, List.set_cons_zero, List.set_cons_succ]
                  refine wpAnyH_take (i := 10) (v := ?_) rfl (by kernel_rfl) (by kernel_rfl) (by kernel_rfl) (fun _ _ _ h => h) (Or.inl ⟨by rfl, ?_⟩) Z0.out ?_
                  rotate_left
                  · intro wq hSw; have cl0 := hSw.sz.cell 5; go_simp; first | done | with_reducible rfl
                  simp only [List.getElem_toArray, List.getElem_cons_zero, List.getElem_cons_succ, Act.put, List.setIfInBounds_toArray, List.set_cons_zero, List.set_cons_succ]
                  refine wpAnyH_take (i := 12) (v := ?_) rfl (by kernel_rfl) (by kernel_rfl) (by kernel_rfl) (fun _ _ _ h => h) (Or.inl ⟨by rfl, ?_⟩) Z0.out ?_
                  rotate_left
                  · intro wq hSw; go_simp; first | done | with_reducible rfl
                  simp only [List.getElem_toArray, List.getElem_cons_zero, List.getElem_cons_succ, Act.put, List.setIfInBounds_toArray, List.set_cons_zero, List.set_cons_succ]
                  refine wpAnyH_take (i := 13) (v := ?_) rfl (by kernel_rfl) (by kernel_rfl) (by kernel_rfl) (fun _ _ _ h => h) (Or.inl ⟨by rfl, ?_⟩) Z0.out ?_
                  rotate_left
                  · intro wq hSw; go_simp; first | done | with_reducible rfl
                  simp only [List.getElem_toArray, List.getElem_cons_zero, List.getElem_cons_succ, Act.put, List.setIfInBounds_toArray, List.set_cons_zero, List.set_cons_succ]
                  refine wpAnyH_take (i := 14) (v := ?_) rfl (by kernel_rfl) (by kernel_rfl) (by kernel_rfl) (fun _ _ _ h => h) (Or.inl ⟨by rfl, ?_⟩) Z0.out ?_
                  rotate_left
                  · intro wq hSw; have cl0 := hSw.sk.cell 4; go_simp; first | done | with_reducible rfl
                  simp only [List.getElem_toArray, List.getElem_cons_zero, List.getElem_cons_succ, Act.put, List.setIfInBounds_toArray, List.set_cons_zero, List.set_cons_succ]
                  refine wpAnyH_take (i := 15) (v := ?_) rfl (by kernel_rfl) (by kernel_rfl) (by kernel_rfl) (fun _ _ _ h => h) (Or.inl ⟨by rfl, ?_⟩) Z0.out ?_
                  rotate_left
                  · intro wq hSw; go_simp; first | done | with_reducible rfl
                  simp only [List.getElem_toArray, List.getElem_cons_zero, List.getElem_cons_succ, Act.put, List.setIfInBounds_toArray, List.set_cons_zero, List.set_cons_succ]
                  refine wpAnyH_take (i := 16) (v := ?_) rfl (by kernel_rfl) (by kernel_rfl) (by kernel_rfl) (fun _ _ _ h => h) (Or.inl ⟨by rfl, ?_⟩) Z0.out ?_
                  rotate_left
                  · intro wq hSw; go_simp; first | done | with_reducible rfl
                  simp only [List.getElem_toArray, List.getElem_cons_zero, List.getElem_cons_succ, Act.put, List.setIfInBounds_toArray, List.set_cons_zero, List.set_cons_succ]
                  refine wpAnyH_take (i := 17) (v := ?_) rfl (by kernel_rfl) (by kernel_rfl) (by kernel_rfl) (fun _ _ _ h => h) (Or.inl ⟨by rfl, ?_⟩) Z0.out ?_
                  rotate_left
                  · intro wq hSw; go_simp; first | done | with_reducible rfl
                  simp only [List.getElem_toArray, List.getElem_cons_zero, List.getElem_cons_succ, Act.put, List.setIfInBounds_toArray, List.set_cons_zero, List.set_cons_succ]
                  refine wpAnyH_take (i := 18) (v := ?_) rfl (by kernel_rfl) (by kernel_rfl) (by kernel_rfl) (fun _ _ _ h => h) (Or.inl ⟨by rfl, ?_⟩) Z0.out ?_
                  rotate_left
                  · intro wq hSw; have cl0 := hSw.sz.cell 5; go_simp; first | done | with_reducible rfl
                  simp only [List.getElem_toArray, List.getElem_cons_zero, List.getElem_cons_succ, Act.put, List.setIfInBounds_toArray, List.set_cons_zero, List.set_cons_succ]
                  refine wpAnyH_ready (rs := [11]) (by kernel_rfl) (by simp) ?_
                  refine AllReadyH.cons rfl (fun K0 hK0 => ?_) ?_
                  rotate_left
                  · exact AllReadyH.nil
                  refine step_func 25 #[.int .u64 (rowF S 1), .string kk, .int .i64 (k : Int), .int .i64 (c : Int)] (by rfl) rfl (by simp [Act.eval]) (fun _ _ => by kernel_rfl) ?_
                  refine (C1.out _).mono ?_
                  rintro e v1 ⟨rfl, b1⟩
                  have Z1 := hidE (Z0.out.next b1)
                  clear b1
                  refine ⟨_, rfl, ?_⟩
                  refine hK0.out _ _ (by exact Z1.out) (fun hHeld => ?_)
                  clear hK0 K0 hHeld
                  simp only [Act.put, List.setIfInBounds_toArray]
                  refine wpAnyH_ready (rs := [19]) (by kernel_rfl) (by simp) ?_
                  refine AllReadyH.cons rfl (fun K0 hK0 => ?_) ?_
                  rotate_left
                  · exact AllReadyH.nil
                  refine step_func 25 #[.int .u64 (rowF S 1), .string s, .int .i64 (k : Int), .int .i64 (c : Int)] (by rfl) rfl (by simp [Act.eval]) (fun _ _ => by kernel_rfl) ?_
                  refine (C2.out _).mono ?_
                  rintro e v2 ⟨rfl, b2⟩
                  have Z2 := hidE (Z1.out.next b2)
                  clear b2
                  refine ⟨_, rfl, ?_⟩
                  refine hK0.out _ _ (by exact Z2.out) (fun hHeld => ?_)
                  clear hK0 K0 hHeld
                  simp only [Act.put]
                  refine wpAnyH_take (i := 20) (v := ?_) rfl (by kernel_rfl) (by kernel_rfl) (by kernel_rfl) (fun _ _ _ h => h) (Or.inl ⟨by rfl, ?_⟩) Z2.out ?_
                  rotate_left
                  · intro wq hSw; go_simp; first | done | with_reducible rfl
                  simp only [List.getElem_toArray, List.getElem_cons_zero, List.getElem_cons_succ, Act.put, List.setIfInBounds_toArray, List.set_cons_zero, List.set_cons_succ]
                  refine wpAnyH_take (i := 21) (v := ?_) rfl (by kernel_rfl) (by kernel_rfl) (by kernel_rfl) (fun _ _ _ h => h) (Or.inl ⟨by rfl, ?_⟩) Z2.out ?_
                  rotate_left
                  · intro wq hSw; go_simp; first | done | with_reducible rfl
                  simp only [List.getElem_toArray, List.getElem_cons_zero, List.getElem_cons_succ, Act.put, List.setIfInBounds_toArray, List.set_cons_zero, List.set_cons_succ]
                  refine wpAnyH_done (by kernel_rfl) ?_ _
                  refine NoPanic.normal ?_
                  refine hQQ.out _ _ ?_
                  clear hQQ
                  go_wp2_with fail
                  go_roundg (m - (t + 1))
                  case measure => have := HJ.out; omega
                  case rel => exact ⟨t + 1, ov, ⟨rfl, by omega, by rw [cntK, ← HO.out, ← KK.out, if_neg (by unfold othK; rw [← HP.out.1, ← HP.out.2]; simp [PE.out]), Int.add_zero], Z2.out⟩, rfl, by go_num⟩
            · have bt : ¬ (t : Int) < (m : Int) := by omega
              obtain rfl : t = m := by omega
              have te : hi ≤ cc + ov := by rw [HO.out]; first | exact T5.out k kz rfl | exact T5.out k kz trivial | exact T5.out k kz
              have tn : ¬ hi > cc + ov := by omega
              go_wp2_with fail
              go_roundg (R - (k + 1))
              case measure => have := HG.out; omega
              case rel => exact ⟨k + 1, ⟨rfl, by omega, IK.out⟩, by go_num⟩
        · have bk : ¬ (k : Int) < (R : Int) := by omega
          go_wp2_with fail
          refine (AW.out wr).mono ?_
          rintro e u6 ⟨rfl, b6⟩
          go_wp2_with fail
          go_ret
          exact ⟨rfl, bel_trans IK.out.since b6⟩
    | true =>
      obtain ⟨q1, q2⟩ := t4 rfl rfl
      clear t3 t4
      obtain rfl : lo = cc := q1
      obtain rfl : hi = lo := q2
      have e1 : (hi != hi) = false := by simp
      go_wp2_with fail
      go_loopg [14] R (fun gk i wr => ∃ k : Nat, (gk = R - k ∧ k ≤ R ∧ BndIn w wr S votes n room R c g a0 c0 a1 c1) ∧ i = .int .i64 (k : Int))
      case atStart => exact ⟨0, ⟨rfl, by omega, IN4.out⟩, rfl⟩
      case round =>
        clear IN4
        obtain ⟨k, ⟨hgk, hk, hI⟩, rfl⟩ := hrel
        have IK := hidE hI
        have HG := hidE hgk
        clear hI hgk
        have z4 : wr.cell? ⟨w.heap.size, 4, none⟩ = some (.int .i64 (R : Int)) := IK.out.sz.cell 4
        by_cases kz : k < R
        · have bk : (k : Int) < (R : Int) := by omega
          have bk0 : (0 : Int) ≤ (k : Int) := by omega
          obtain ⟨A, cap, lb, lo', hlv, hcap, hA, hL⟩ := SA.out
          have HA := hidE hA
          have HLc := hidE hL
          subst hlv
          clear hA hL
          go_wp2_with fail
          clear z4
          go_loopg [15, 85] m (fun gj o j wi => ∃ (t : Nat) (ov : Int), (gj = m - t ∧ t ≤ m ∧ ov = cntK Q (othK S c s k) t ∧ BndIn w wi S votes n room R c g a0 c0 a1 c1) ∧ o = .int .i64 ov ∧ j = .int .i64 (t : Int))
          case atStart => exact ⟨0, 0, ⟨rfl, by omega, rfl, IK.out⟩, rfl, rfl⟩
          case round =>
            clear IK
            obtain ⟨t, ov, ⟨hgj, ht, hov, hI⟩, rfl, rfl⟩ := hrel
            have IK := hidE hI
            have HJ := hidE hgj
            have HO := hidE hov
            have ov0 : 0 ≤ ov := by rw [hov]; exact cntK_nn _ _ _
            have ov1 : ov ≤ (t : Int) := by rw [hov]; exact cntK_le _ _ _
            clear hI hgj hov
            by_cases tz : t < m
            · obtain rfl := HA.out (by omega)
              have bt : (t : Int) < (m : Int) := by omega
              have bt0 : (0 : Int) ≤ (t : Int) := by omega
              obtain ⟨kk, hkk⟩ : ∃ kk, kk = Q t := ⟨_, rfl⟩
              have cl : wr.cell? ⟨lb, lo' + t, none⟩ = some (.string kk) := by rw [hkk]; exact keep_of_below IK.out.since _ _ (HLc.out t tz)
              have ks : kk.size ≤ 100 := by rw [hkk]; exact HQ.out t tz
              have KK := hidE hkk
              clear hkk
              by_cases e : kk = s
              · have q : (kk.toList == s.toList) = true := by rw [str_eq, decide_eq_true e]
                have q2 : (kk.toList != s.toList) = false := by simp [bne, q]
                have HE := hidE e
                clear e
                go_wp2_with fail
                clear cl
                refine letterQ ?_
                intro QQ hQQ
                have Z0 : Hid (BndIn w wr.drew S votes n room R c g a0 c0 a1 c1) := IK.out.next (Below.refl _ _).drew
                refine wp_region_held_drew (S := fun w2 => BndIn w w2 S votes n room R c g a0 c0 a1 c1) (by kernel_rfl) Z0.out (fun hHeld => ?_)
                clear hHeld
                generalize wr.drew = q0 at Z0 ⊢
                refine wpAnyH_take (i := 0) (v := ?_) rfl (by kernel_rfl) (by kernel_rfl) (by kernel_rfl) (fun _ _ _ h => h) (Or.inl ⟨by rfl, ?_⟩) Z0.out ?_
                rotate_left
                · intro wq hSw; go_simp; first | done | with_reducible rfl
                simp only [List.getElem_toArray, List.getElem_cons_zero, Act.put, List.setIfInBounds_toArray, List.set_cons_zero, List.set_cons_succ]
                refine wpAnyH_take (i := 1) (v := ?_) rfl (by kernel_rfl) (by kernel_rfl) (by kernel_rfl) (fun _ _ _ h => h) (Or.inl ⟨by rfl, ?_⟩) Z0.out ?_
                rotate_left
                · intro wq hSw; go_simp; first | done | with_reducible rfl
                simp only [List.getElem_toArray, List.getElem_cons_zero, List.getElem_cons_succ, Act.put, List.setIfInBounds_toArray, List.set_cons_zero, List.set_cons_succ]
                refine wpAnyH_take (i := 2) (v := ?_) rfl (by kernel_rfl) (by kernel_rfl) (by kernel_rfl) (fun _ _ _ h => h) (Or.inl ⟨by rfl, ?_⟩) Z0.out ?_
                rotate_left
                · intro wq hSw; go_simp; first | done | with_reducible rfl
                simp only [List.getElem_toArray, List.getElem_cons_zero, List.getElem_cons_succ, Act.put, List.setIfInBounds_toArray, List.set_cons_zero, List.set_cons_succ]
                refine wpAnyH_take (i := 3) (v := ?_) rfl (by kernel_rfl) (by kernel_rfl) (by kernel_rfl) (fun _ _ _ h => h) (Or.inl ⟨by rfl, ?_⟩) Z0.out ?_
                rotate_left
                · intro wq hSw; go_simp; first | done | with_reducible rfl
                simp only [List.getElem_toArray, List.getElem_cons_zero, List.getElem_cons_succ, Act.put, List.setIfInBounds_toArray, List.set_cons_zero, List.set_cons_succ]
                refine wpAnyH_take (i := 4) (v := undef) rfl (by kernel_rfl) (by kernel_rfl) (by kernel_rfl) (fun _ _ _ h => h) (Or.inr ⟨by rfl, rfl⟩) Z0.out ?_
                simp only [List.getElem_toArray, List.getElem_cons_zero, List.getElem_cons_succ, Act.put, List.setIfInBounds_toArray, List.set_cons_zero, List.set_cons_succ]
                refine wpAnyH_take (i := 5) (v := undef) rfl (by kernel_rfl) (by kernel_rfl) (by kernel_rfl) (fun _ _ _ h => h) (Or.inr ⟨by rfl, rfl⟩) Z0.out ?_
                simp only [List.getElem_toArray, List.getElem_cons_zero, List.getElem_cons_succ, Act.put, List.setIfInBounds_toArray, List.set_cons_zero, List.set_cons_succ]
                refine wpAnyH_take (i := 6) (v := undef) rfl (by kernel_rfl) (by kernel_rfl) (by kernel_rfl) (fun _ _ _ h => h) (Or.inr ⟨by rfl, rfl⟩) Z0.out ?_
                simp only [List.getElem_toArray, List.getElem_cons_zero, List.getElem_cons_succ, Act.put, List.setIfInBounds_toArray, List.set_cons_zero, List.set_cons_succ]
                refine wpAnyH_take (i := 7) (v := undef) rfl (by kernel_rfl) (by kernel_rfl) (by kernel_rfl) (fun _ _ _ h => h) (Or.inr ⟨by rfl, rfl⟩) Z0.out ?_
                simp only [List.getElem_toArray, List.getElem_cons_zero, List.getElem_cons_succ, Act.put, List.setIfInBounds_toArray, List.set_cons_zero, List.set_cons_succ]
                refine wpAnyH_take (i := 8) (v := undef) rfl (by kernel_rfl) (by kernel_rfl) (by kernel_rfl) (fun _ _ _ h => h) (Or.inr ⟨by rfl, rfl⟩) Z0.out ?_
                simp only [List.getElem_toArray, List.getElem_cons_zero, List.getElem_cons_succ, Act.put, List.setIfInBounds_toArray, List.set_cons_zero, List.set_cons_succ]
                refine wpAnyH_take (i := 9) (v := undef) rfl (by kernel_rfl) (by kernel_rfl) (by kernel_rfl) (fun _ _ _ h => h) (Or.inr ⟨by rfl, rfl⟩) Z0.out ?_
                simp only [List.getElem_toArray, List.getElem_cons_zero, List.getElem_cons_succ, Act.put, List.setIfInBounds_toArray, List.set_cons_zero, List.set_cons_succ]
                refine wpAnyH_take (i := 10) (v := undef) rfl (by kernel_rfl) (by kernel_rfl) (by kernel_rfl) (fun _ _ _ h => h) (Or.inr ⟨by rfl, rfl⟩) Z0.out ?_
                simp only [List.getElem_toArray, List.getElem_cons_zero, List.getElem_cons_succ, Act.put, List.setIfInBounds_toArray, List.set_cons_zero, List.set_cons_succ]
                refine wpAnyH_take (i := 11) (v := undef) rfl (by kernel_rfl) (by kernel_rfl) (by kernel_rfl) (fun _ _ _ h => h) (Or.inr ⟨by rfl, rfl⟩) Z0.out ?_
                simp only [List.getElem_toArray, List.getElem_cons_zero, List.getElem_cons_succ, Act.put, List.setIfInBounds_toArray, List.set_cons_zero, List.set_cons_succ]
                refine wpAnyH_take (i := 12) (v := undef) rfl (by kernel_rfl) (by kernel_rfl) (by kernel_rfl) (fun _ _ _ h => h) (Or.inr ⟨by rfl, rfl⟩) Z0.out ?_
                simp only [List.getElem_toArray, List.getElem_cons_zero, List.getElem_cons_succ, Act.put, List.setIfInBounds_toArray, List.set_cons_zero, List.set_cons_succ]
                refine wpAnyH_take (i := 13) (v := undef) rfl (by kernel_rfl) (by kernel_rfl) (by kernel_rfl) (fun _ _ _ h => h) (Or.inr ⟨by rfl, rfl⟩) Z0.out ?_
                simp only [List.getElem_toArray, List.getElem_cons_zero, List.getElem_cons_succ, Act.put, List.setIfInBounds_toArray, List.set_cons_zero, List.set_cons_succ]
                refine wpAnyH_take (i := 14) (v := undef) rfl (by kernel_rfl) (by kernel_rfl) (by kernel_rfl) (fun _ _ _ h => h) (Or.inr ⟨by rfl, rfl⟩) Z0.out ?_
                simp only [List.getElem_toArray, List.getElem_cons_zero, List.getElem_cons_succ, Act.put, List.setIfInBounds_toArray, List.set_cons_zero, List.set_cons_succ]
                refine wpAnyH_take (i := 15) (v := undef) rfl (by kernel_rfl) (by kernel_rfl) (by kernel_rfl) (fun _ _ _ h => h) (Or.inr ⟨by rfl, rfl⟩) Z0.out ?_
                simp only [List.getElem_toArray, List.getElem_cons_zero, List.getElem_cons_succ, Act.put, List.setIfInBounds_toArray, List.set_cons_zero, List.set_cons_succ]
                refine wpAnyH_take (i := 16) (v := undef) rfl (by kernel_rfl) (by kernel_rfl) (by kernel_rfl) (fun _ _ _ h => h) (Or.inr ⟨by rfl, rfl⟩) Z0.out ?_
                simp only [List.getElem_toArray, List.getElem_cons_zero, List.getElem_cons_succ, Act.put, List.setIfInBounds_toArray, List.set_cons_zero, List.set_cons_succ]
                refine wpAnyH_take (i := 17) (v := undef) rfl (by kernel_rfl) (by kernel_rfl) (by kernel_rfl) (fun _ _ _ h => h) (Or.inr ⟨by rfl, rfl⟩) Z0.out ?_
                simp only [List.getElem_toArray, List.getElem_cons_zero, List.getElem_cons_succ, Act.put, List.setIfInBounds_toArray, List.set_cons_zero, List.set_cons_succ]
                refine wpAnyH_take (i := 18) (v := undef) rfl (by kernel_rfl) (by kernel_rfl) (by kernel_rfl) (fun _ _ _ h => h) (Or.inr ⟨by rfl, rfl⟩) Z0.out ?_
                simp only [List.getElem_toArray, List.getElem_cons_zero, List.getElem_cons_succ, Act.put, List.setIfInBounds_toArray, List.set_cons_zero, List.set_cons_succ]
                refine wpAnyH_take (i := 19) (v := undef) rfl (by kernel_rfl) (by kernel_rfl) (by kernel_rfl) (fun _ _ _ h => h) (Or.inr ⟨by rfl, rfl⟩) Z0.out ?_
                simp only [List.getElem_toArray, List.getElem_cons_zero, List.getElem_cons_succ, Act.put, List.setIfInBounds_toArray, List.set_cons_zero, List.set_cons_succ]
                refine wpAnyH_take (i := 20) (v := undef) rfl (by kernel_rfl) (by kernel_rfl) (by kernel_rfl) (fun _ _ _ h => h) (Or.inr ⟨by rfl, rfl⟩) Z0.out ?_
                simp only [List.getElem_toArray, List.getElem_cons_zero, List.getElem_cons_succ, Act.put, List.setIfInBounds_toArray, List.set_cons_zero, List.set_cons_succ]
                refine wpAnyH_take (i := 21) (v := ?_) rfl (by kernel_rfl) (by kernel_rfl) (by kernel_rfl) (fun _ _ _ h => h) (Or.inl ⟨by rfl, ?_⟩) Z0.out ?_
                rotate_left
                · intro wq hSw; go_simp; first | done | with_reducible rfl
                simp only [List.getElem_toArray, List.getElem_cons_zero, List.getElem_cons_succ, Act.put, List.setIfInBounds_toArray, List.set_cons_zero, List.set_cons_succ]
                refine wpAnyH_done (by kernel_rfl) ?_ _
                refine NoPanic.normal ?_
                refine hQQ.out _ _ ?_
                clear hQQ
                go_wp2_with fail
                go_roundg (m - (t + 1))
                case measure => have := HJ.out; omega
                case rel => exact ⟨t + 1, ov, ⟨rfl, by omega, by rw [cntK, ← HO.out, ← KK.out, if_neg (by unfold othK; simp [HE.out]), Int.add_zero], Z0.out⟩, rfl, by go_num⟩
              · have q : (kk.toList == s.toList) = false := by rw [str_eq, decide_eq_false e]
                have q2 : (kk.toList != s.toList) = true := by simp [bne, q]
                have HE := hidE e
                clear e
                obtain ⟨p1, hp1⟩ : ∃ p1, p1 = placeN (rowF S 1) kk c k := ⟨_, rfl⟩
                obtain ⟨p2, hp2⟩ : ∃ p2, p2 = placeN (rowF S 1) s c k := ⟨_, rfl⟩
                have C1 : Hid (∀ u, Calls Try.prog 25 #[.int .u64 (rowF S 1), .string kk, .int .i64 (k : Int), .int .i64 (c : Int)] u fun e w' => e = .returned (.int .i64 (p1 : Int)) ∧ Below u.heap.size u w') := fun u => by rw [hp1]; exact rlcell_any (rowF S 1) kk k c u (rowF_U S 1) (by omega) (by omega) c1' (by omega)
                have C2 : Hid (∀ u, Calls Try.prog 25 #[.int .u64 (rowF S 1), .string s, .int .i64 (k : Int), .int .i64 (c : Int)] u fun e w' => e = .returned (.int .i64 (p2 : Int)) ∧ Below u.heap.size u w') := fun u => by rw [hp2]; exact rlcell_any (rowF S 1) s k c u (rowF_U S 1) (by omega) (by omega) c1' (by omega)
                have HP := hidE (And.intro hp1 hp2)
                clear hp1 hp2
                by_cases pe : p1 = p2
                · have qp : ((p1 : Int) == (p2 : Int)) = true := by rw [pe]; simp
                  have PE := hidE pe
                  clear pe
                  go_wp2_with fail
                  clear cl
                  refine letterQ ?_
                  intro QQ hQQ
                  have Z0 : Hid (BndIn w wr.drew S votes n room R c g a0 c0 a1 c1) := IK.out.next (Below.refl _ _).drew
                  refine wp_region_held_drew (S := fun w2 => BndIn w w2 S votes n room R c g a0 c0 a1 c1) (by kernel_rfl) Z0.out (fun hHeld => ?_)
                  clear hHeld
                  generalize wr.drew = q0 at Z0 ⊢
                  refine wpAnyH_take (i := 0) (v := ?_) rfl (by kernel_rfl) (by kernel_rfl) (by kernel_rfl) (fun _ _ _ h => h) (Or.inl ⟨by rfl, ?_⟩) Z0.out ?_
                  rotate_left
                  · intro wq hSw; go_simp; first | done | with_reducible rfl
                  simp only [List.getElem_toArray, List.getElem_cons_zero, Act.put, List.setIfInBounds_toArray, List.set_cons_zero, List.set_cons_succ]
                  refine wpAnyH_take (i := 1) (v := ?_) rfl (by kernel_rfl) (by kernel_rfl) (by kernel_rfl) (fun _ _ _ h => h) (Or.inl ⟨by rfl, ?_⟩) Z0.out ?_
                  rotate_left
                  · intro wq hSw; go_simp; first | done | with_reducible rfl
                  simp only [List.getElem_toArray, List.getElem_cons_zero, List.getElem_cons_succ, Act.put, List.setIfInBounds_toArray, List.set_cons_zero, List.set_cons_succ]
                  refine wpAnyH_take (i := 2) (v := ?_) rfl (by kernel_rfl) (by kernel_rfl) (by kernel_rfl) (fun _ _ _ h => h) (Or.inl ⟨by rfl, ?_⟩) Z0.out ?_
                  rotate_left
                  · intro wq hSw; go_simp; first | done | with_reducible rfl
                  simp only [List.getElem_toArray, List.getElem_cons_zero, List.getElem_cons_succ, Act.put, List.setIfInBounds_toArray, List.set_cons_zero, List.set_cons_succ]
                  refine wpAnyH_take (i := 3) (v := ?_) rfl (by kernel_rfl) (by kernel_rfl) (by kernel_rfl) (fun _ _ _ h => h) (Or.inl ⟨by rfl, ?_⟩) Z0.out ?_
                  rotate_left
                  · intro wq hSw; go_simp; first | done | with_reducible rfl
                  simp only [List.getElem_toArray, List.getElem_cons_zero, List.getElem_cons_succ, Act.put, List.setIfInBounds_toArray, List.set_cons_zero, List.set_cons_succ]
                  refine wpAnyH_take (i := 4) (v := ?_) rfl (by kernel_rfl) (by kernel_rfl) (by kernel_rfl) (fun _ _ _ h => h) (Or.inl ⟨by rfl, ?_⟩) Z0.out ?_
                  rotate_left
                  · intro wq hSw; go_simp; first | done | with_reducible rfl
                  simp only [List.getElem_toArray, List.getElem_cons_zero, List.getElem_cons_succ, Act.put, List.setIfInBounds_toArray, List.set_cons_zero, List.set_cons_succ]
                  refine wpAnyH_take (i := 5) (v := ?_) rfl (by kernel_rfl) (by kernel_rfl) (by kernel_rfl) (fun _ _ _ h => h) (Or.inl ⟨by rfl, ?_⟩) Z0.out ?_
                  rotate_left
                  · intro wq hSw; go_simp; first | done | with_reducible rfl
                  simp only [List.getElem_toArray, List.getElem_cons_zero, List.getElem_cons_succ, Act.put, List.setIfInBounds_toArray, List.set_cons_zero, List.set_cons_succ]
                  refine wpAnyH_take (i := 6) (v := ?_) rfl (by kernel_rfl) (by kernel_rfl) (by kernel_rfl) (fun _ _ _ h => h) (Or.inl ⟨by rfl, ?_⟩) Z0.out ?_
                  rotate_left
                  · intro wq hSw; have cl0 := hSw.sk.cell 4; go_simp; first | done | with_reducible rfl
                  simp only [List.getElem_toArray, List.getElem_cons_zero, List.getElem_cons_succ, Act.put, List.setIfInBounds_toArray, List.set_cons_zero, List.set_cons_succ]
                  refine wpAnyH_take (i := 7) (v := ?_) rfl (by kernel_rfl) (by kernel_rfl) (by kernel_rfl) (fun _ _ _ h => h) (Or.inl ⟨by rfl, ?_⟩) Z0.out ?_
                  rotate_left
                  · intro wq hSw; go_simp; first | done | with_reducible rfl
                  simp only [List.getElem_toArray, List.getElem_cons_zero, List.getElem_cons_succ, Act.put, List.setIfInBounds_toArray, List.set_cons_zero, List.set_cons_succ]
                  refine wpAnyH_take (i := 8) (v := ?_) rfl (by kernel_rfl) (by kernel_rfl) (by kernel_rfl) (fun _ _ _ h => h) (Or.inl ⟨by rfl, ?_⟩) Z0.out ?_
                  rotate_left
                  · intro wq hSw; go_simp; first | done | with_reducible rfl
                  simp only [List.getElem_toArray, List.getElem_cons_zero, List.getElem_cons_succ, Act.put, List.setIfInBounds_toArray, List.set_cons_zero, List.set_cons_succ]
                  refine wpAnyH_take (i := 9) (v := ?_) rfl (by kernel_rfl) (by kernel_rfl) (by kernel_rfl) (fun _ _ _ h => h) (Or.inl ⟨by rfl, ?_⟩) Z0.out ?_
                  rotate_left
                  · intro wq hSw; go_simp; first | done | with_reducible rfl
                  simp only [List.getElem_toArray, List.getElem_cons_zero, List.getElem_cons_succ, Act.put, List.setIfInBounds_toArray, List.set_cons_zero, List.set_cons_succ]
                  refine wpAnyH_take (i := 10) (v := ?_) rfl (by kernel_rfl) (by kernel_rfl) (by kernel_rfl) (fun _ _ _ h => h) (Or.inl ⟨by rfl, ?_⟩) Z0.out ?_
                  rotate_left
                  · intro wq hSw; have cl0 := hSw.sz.cell 5; go_simp; first | done | with_reducible rfl
                  simp only [List.getElem_toArray, List.getElem_cons_zero, List.getElem_cons_succ, Act.put, List.setIfInBounds_toArray, List.set_cons_zero, List.set_cons_succ]
                  refine wpAnyH_take (i := 12) (v := ?_) rfl (by kernel_rfl) (by kernel_rfl) (by kernel_rfl) (fun _ _ _ h => h) (Or.inl ⟨by rfl, ?_⟩) Z0.out ?_
                  rotate_left
                  · intro wq hSw; go_simp; first | done | with_reducible rfl
                  simp only [List.getElem_toArray, List.getElem_cons_zero, List.getElem_cons_succ, Act.put, List.setIfInBounds_toArray, List.set_cons_zero, List.set_cons_succ]
                  refine wpAnyH_take (i := 13) (v := ?_) rfl (by kernel_rfl) (by kernel_rfl) (by kernel_rfl) (fun _ _ _ h => h) (Or.inl ⟨by rfl, ?_⟩) Z0.out ?_
                  rotate_left
                  · intro wq hSw; go_simp; first | done | with_reducible rfl
                  simp only [List.getElem_toArray, List.getElem_cons_zero, List.getElem_cons_succ, Act.put, List.setIfInBounds_toArray, List.set_cons_zero, List.set_cons_succ]
                  refine wpAnyH_take (i := 14) (v := ?_) rfl (by kernel_rfl) (by kernel_rfl) (by kernel_rfl) (fun _ _ _ h => h) (Or.inl ⟨by rfl, ?_⟩) Z0.out ?_
                  rotate_left
                  · intro wq hSw; have cl0 := hSw.sk.cell 4; go_simp; first | done | with_reducible rfl
                  simp only [List.getElem_toArray, List.getElem_cons_zero, List.getElem_cons_succ, Act.put, List.setIfInBounds_toArray, List.set_cons_zero, List.set_cons_succ]
                  refine wpAnyH_take (i := 15) (v := ?_) rfl (by kernel_rfl) (by kernel_rfl) (by kernel_rfl) (fun _ _ _ h => h) (Or.inl ⟨by rfl, ?_⟩) Z0.out ?_
                  rotate_left
                  · intro wq hSw; go_simp; first | done | with_reducible rfl
                  simp only [List.getElem_toArray, List.getElem_cons_zero, List.getElem_cons_succ, Act.put, List.setIfInBounds_toArray, List.set_cons_zero, List.set_cons_succ]
                  refine wpAnyH_take (i := 16) (v := ?_) rfl (by kernel_rfl) (by kernel_rfl) (by kernel_rfl) (fun _ _ _ h => h) (Or.inl ⟨by rfl, ?_⟩) Z0.out ?_
                  rotate_left
                  · intro wq hSw; go_simp; first | done | with_reducible rfl
                  simp only [List.getElem_toArray, List.getElem_cons_zero, List.getElem_cons_succ, Act.put, List.setIfInBounds_toArray, List.set_cons_zero, List.set_cons_succ]
                  refine wpAnyH_take (i := 17) (v := ?_) rfl (by kernel_rfl) (by kernel_rfl) (by kernel_rfl) (fun _ _ _ h => h) (Or.inl ⟨by rfl, ?_⟩) Z0.out ?_
                  rotate_left
                  · intro wq hSw; go_simp; first | done | with_reducible rfl
                  simp only [List.getElem_toArray, List.getElem_cons_zero, List.getElem_cons_succ, Act.put, List.setIfInBounds_toArray, List.set_cons_zero, List.set_cons_succ]
                  refine wpAnyH_take (i := 18) (v := ?_) rfl (by kernel_rfl) (by kernel_rfl) (by kernel_rfl) (fun _ _ _ h => h) (Or.inl ⟨by rfl, ?_⟩) Z0.out ?_
                  rotate_left
                  · intro wq hSw; have cl0 := hSw.sz.cell 5; go_simp; first | done | with_reducible rfl
                  simp only [List.getElem_toArray, List.getElem_cons_zero, List.getElem_cons_succ, Act.put, List.setIfInBounds_toArray, List.set_cons_zero, List.set_cons_succ]
                  refine wpAnyH_ready (rs := [11]) (by kernel_rfl) (by simp) ?_
                  refine AllReadyH.cons rfl (fun K0 hK0 => ?_) ?_
                  rotate_left
                  · exact AllReadyH.nil
                  refine step_func 25 #[.int .u64 (rowF S 1), .string kk, .int .i64 (k : Int), .int .i64 (c : Int)] (by rfl) rfl (by simp [Act.eval]) (fun _ _ => by kernel_rfl) ?_
                  refine (C1.out _).mono ?_
                  rintro e v1 ⟨rfl, b1⟩
                  have Z1 := hidE (Z0.out.next b1)
                  clear b1
                  refine ⟨_, rfl, ?_⟩
                  refine hK0.out _ _ (by exact Z1.out) (fun hHeld => ?_)
                  clear hK0 K0 hHeld
                  simp only [Act.put, List.setIfInBounds_toArray]
                  refine wpAnyH_ready (rs := [19]) (by kernel_rfl) (by simp) ?_
                  refine AllReadyH.cons rfl (fun K0 hK0 => ?_) ?_
                  rotate_left
                  · exact AllReadyH.nil
                  refine step_func 25 #[.int .u64 (rowF S 1), .string s, .int .i64 (k : Int), .int .i64 (c : Int)] (by rfl) rfl (by simp [Act.eval]) (fun _ _ => by kernel_rfl) ?_
                  refine (C2.out _).mono ?_
                  rintro e v2 ⟨rfl, b2⟩
                  have Z2 := hidE (Z1.out.next b2)
                  clear b2
                  refine ⟨_, rfl, ?_⟩
                  refine hK0.out _ _ (by exact Z2.out) (fun hHeld => ?_)
                  clear hK0 K0 hHeld
                  simp only [Act.put]
                  refine wpAnyH_take (i := 20) (v := ?_) rfl (by kernel_rfl) (by kernel_rfl) (by kernel_rfl) (fun _ _ _ h => h) (Or.inl ⟨by rfl, ?_⟩) Z2.out ?_
                  rotate_left
                  · intro wq hSw; go_simp; first | done | with_reducible rfl
                  simp only [List.getElem_toArray, List.getElem_cons_zero, List.getElem_cons_succ, Act.put, List.setIfInBounds_toArray, List.set_cons_zero, List.set_cons_succ]
                  refine wpAnyH_take (i := 21) (v := ?_) rfl (by kernel_rfl) (by kernel_rfl) (by kernel_rfl) (fun _ _ _ h => h) (Or.inl ⟨by rfl, ?_⟩) Z2.out ?_
                  rotate_left
                  · intro wq hSw; go_simp; first | done | with_reducible rfl
                  simp only [List.getElem_toArray, List.getElem_cons_zero, List.getElem_cons_succ, Act.put, List.setIfInBounds_toArray, List.set_cons_zero, List.set_cons_succ]
                  refine wpAnyH_done (by kernel_rfl) ?_ _
                  refine NoPanic.normal ?_
                  refine hQQ.out _ _ ?_
                  clear hQQ
                  go_wp2_with fail
                  go_roundg (m - (t + 1))
                  case measure => have := HJ.out; omega
                  case rel => exact ⟨t + 1, ov + 1, ⟨rfl, by omega, by rw [cntK, ← HO.out, ← KK.out, if_pos (by unfold othK; rw [← HP.out.1, ← HP.out.2]; simp [PE.out, HE.out])], Z2.out⟩, by go_num, by go_num⟩
                · have qp : ((p1 : Int) == (p2 : Int)) = false := by simp; omega
                  have PE := hidE pe
                  clear pe
                  go_wp2_with fail
                  clear cl
                  refine letterQ ?_
                  intro QQ hQQ
                  have Z0 : Hid (BndIn w wr.drew S votes n room R c g a0 c0 a1 c1) := IK.out.next (Below.refl _ _).drew
                  refine wp_region_held_drew (S := fun w2 => BndIn w w2 S votes n room R c g a0 c0 a1 c1) (by kernel_rfl) Z0.out (fun hHeld => ?_)
                  clear hHeld
                  generalize wr.drew = q0 at Z0 ⊢
                  refine wpAnyH_take (i := 0) (v := ?_) rfl (by kernel_rfl) (by kernel_rfl) (by kernel_rfl) (fun _ _ _ h => h) (Or.inl ⟨by rfl, ?_⟩) Z0.out ?_
                  rotate_left
                  · intro wq hSw; go_simp; first | done | with_reducible rfl
                  simp only [List.getElem_toArray, List.getElem_cons_zero, Act.put, List.setIfInBounds_toArray, List.set_cons_zero, List.set_cons_succ]
                  refine wpAnyH_take (i := 1) (v := ?_) rfl (by kernel_rfl) (by kernel_rfl) (by kernel_rfl) (fun _ _ _ h => h) (Or.inl ⟨by rfl, ?_⟩) Z0.out ?_
                  rotate_left
                  · intro wq hSw; go_simp; first | done | with_reducible rfl
                  simp only [List.getElem_toArray, List.getElem_cons_zero, List.getElem_cons_succ, Act.put, List.setIfInBounds_toArray, List.set_cons_zero, List.set_cons_succ]
                  refine wpAnyH_take (i := 2) (v := ?_) rfl (by kernel_rfl) (by kernel_rfl) (by kernel_rfl) (fun _ _ _ h => h) (Or.inl ⟨by rfl, ?_⟩) Z0.out ?_
                  rotate_left
                  · intro wq hSw; go_simp; first | done | with_reducible rfl
                  simp only [List.getElem_toArray, List.getElem_cons_zero, List.getElem_cons_succ, Act.put, List.setIfInBounds_toArray, List.set_cons_zero, List.set_cons_succ]
                  refine wpAnyH_take (i := 3) (v := ?_) rfl (by kernel_rfl) (by kernel_rfl) (by kernel_rfl) (fun _ _ _ h => h) (Or.inl ⟨by rfl, ?_⟩) Z0.out ?_
                  rotate_left
                  · intro wq hSw; go_simp; first | done | with_reducible rfl
                  simp only [List.getElem_toArray, List.getElem_cons_zero, List.getElem_cons_succ, Act.put, List.setIfInBounds_toArray, List.set_cons_zero, List.set_cons_succ]
                  refine wpAnyH_take (i := 4) (v := ?_) rfl (by kernel_rfl) (by kernel_rfl) (by kernel_rfl) (fun _ _ _ h => h) (Or.inl ⟨by rfl, ?_⟩) Z0.out ?_
                  rotate_left
                  · intro wq hSw; go_simp; first | done | with_reducible rfl
                  simp only [List.getElem_toArray, List.getElem_cons_zero, List.getElem_cons_succ, Act.put, List.setIfInBounds_toArray, List.set_cons_zero, List.set_cons_succ]
                  refine wpAnyH_take (i := 5) (v := ?_) rfl (by kernel_rfl) (by kernel_rfl) (by kernel_rfl) (fun _ _ _ h => h) (Or.inl ⟨by rfl, ?_⟩) Z0.out ?_
                  rotate_left
                  · intro wq hSw; go_simp; first | done | with_reducible rfl
                  simp only [List.getElem_toArray, List.getElem_cons_zero, List.getElem_cons_succ, Act.put, List.setIfInBounds_toArray, List.set_cons_zero, List.set_cons_succ]
                  refine wpAnyH_take (i := 6) (v := ?_) rfl (by kernel_rfl) (by kernel_rfl) (by kernel_rfl) (fun _ _ _ h => h) (Or.inl ⟨by rfl, ?_⟩) Z0.out ?_
                  rotate_left
                  · intro wq hSw; have cl0 := hSw.sk.cell 4; go_simp; first | done | with_reducible rfl
                  simp only [List.getElem_toArray, List.getElem_cons_zero, List.getElem_cons_succ, Act.put, List.setIfInBounds_toArray, List.set_cons_zero, List.set_cons_succ]
                  refine wpAnyH_take (i := 7) (v := ?_) rfl (by kernel_rfl) (by kernel_rfl) (by kernel_rfl) (fun _ _ _ h => h) (Or.inl ⟨by rfl, ?_⟩) Z0.out ?_
                  rotate_left
                  · intro wq hSw; go_simp; first | done | with_reducible rfl
                  simp only [List.getElem_toArray, List.getElem_cons_zero, List.getElem_cons_succ, Act.put, List.setIfInBounds_toArray, List.set_cons_zero, List.set_cons_succ]
                  refine wpAnyH_take (i := 8) (v := ?_) rfl (by kernel_rfl) (by kernel_rfl) (by kernel_rfl) (fun _ _ _ h => h) (Or.inl ⟨by rfl, ?_⟩) Z0.out ?_
                  rotate_left
                  · intro wq hSw; go_simp; first | done | with_reducible rfl
                  simp only [List.getElem_toArray, List.getElem_cons_zero, List.getElem_cons_succ, Act.put, List.setIfInBounds_toArray, List.set_cons_zero, List.set_cons_succ]
                  refine wpAnyH_take (i := 9) (v := ?_) rfl (by kernel_rfl) (by kernel_rfl) (by kernel_rfl) (fun _ _ _ h => h) (Or.inl ⟨by rfl, ?_⟩) Z0.out ?_
                  rotate_left
                  · intro wq hSw; go_simp; first | done | with_reducible rfl
                  simp only [List.getElem_toArray, List.getElem_cons_zero, List.getElem_cons_succ, Act.put, List.setIfInBounds_toArray, List.set_cons_zero, List.set_cons_succ]
                  refine wpAnyH_take (i := 10) (v := ?_) rfl (by kernel_rfl) (by kernel_rfl) (by kernel_rfl) (fun _ _ _ h => h) (Or.inl ⟨by rfl, ?_⟩) Z0.out ?_
                  rotate_left
                  · intro wq hSw; have cl0 := hSw.sz.cell 5; go_simp; first | done | with_reducible rfl
                  simp only [List.getElem_toArray, List.getElem_cons_zero, List.getElem_cons_succ, Act.put, List.setIfInBounds_toArray, List.set_cons_zero, List.set_cons_succ]
                  refine wpAnyH_take (i := 12) (v := ?_) rfl (by kernel_rfl) (by kernel_rfl) (by kernel_rfl) (fun _ _ _ h => h) (Or.inl ⟨by rfl, ?_⟩) Z0.out ?_
                  rotate_left
                  · intro wq hSw; go_simp; first | done | with_reducible rfl
                  simp only [List.getElem_toArray, List.getElem_cons_zero, List.getElem_cons_succ, Act.put, List.setIfInBounds_toArray, List.set_cons_zero, List.set_cons_succ]
                  refine wpAnyH_take (i := 13) (v := ?_) rfl (by kernel_rfl) (by kernel_rfl) (by kernel_rfl) (fun _ _ _ h => h) (Or.inl ⟨by rfl, ?_⟩) Z0.out ?_
                  rotate_left
                  · intro wq hSw; go_simp; first | done | with_reducible rfl
                  simp only [List.getElem_toArray, List.getElem_cons_zero, List.getElem_cons_succ, Act.put, List.setIfInBounds_toArray, List.set_cons_zero, List.set_cons_succ]
                  refine wpAnyH_take (i := 14) (v := ?_) rfl (by kernel_rfl) (by kernel_rfl) (by kernel_rfl) (fun _ _ _ h => h) (Or.inl ⟨by rfl, ?_⟩) Z0.out ?_
                  rotate_left
                  · intro wq hSw; have cl0 := hSw.sk.cell 4; go_simp; first | done | with_reducible rfl
                  simp only [List.getElem_toArray, List.getElem_cons_zero, List.getElem_cons_succ, Act.put, List.setIfInBounds_toArray, List.set_cons_zero, List.set_cons_succ]
                  refine wpAnyH_take (i := 15) (v := ?_) rfl (by kernel_rfl) (by kernel_rfl) (by kernel_rfl) (fun _ _ _ h => h) (Or.inl ⟨by rfl, ?_⟩) Z0.out ?_
                  rotate_left
                  · intro wq hSw; go_simp; first | done | with_reducible rfl
                  simp only [List.getElem_toArray, List.getElem_cons_zero, List.getElem_cons_succ, Act.put, List.setIfInBounds_toArray, List.set_cons_zero, List.set_cons_succ]
                  refine wpAnyH_take (i := 16) (v := ?_) rfl (by kernel_rfl) (by kernel_rfl) (by kernel_rfl) (fun _ _ _ h => h) (Or.inl ⟨by rfl, ?_⟩) Z0.out ?_
                  rotate_left
                  · intro wq hSw; go_simp; first | done | with_reducible rfl
                  simp only [List.getElem_toArray, List.getElem_cons_zero, List.getElem_cons_succ, Act.put, List.setIfInBounds_toArray, List.set_cons_zero, List.set_cons_succ]
                  refine wpAnyH_take (i := 17) (v := ?_) rfl (by kernel_rfl) (by kernel_rfl) (by kernel_rfl) (fun _ _ _ h => h) (Or.inl ⟨by rfl, ?_⟩) Z0.out ?_
                  rotate_left
                  · intro wq hSw; go_simp; first | done | with_reducible rfl
                  simp only [List.getElem_toArray, List.getElem_cons_zero, List.getElem_cons_succ, Act.put, List.setIfInBounds_toArray, List.set_cons_zero, List.set_cons_succ]
                  refine wpAnyH_take (i := 18) (v := ?_) rfl (by kernel_rfl) (by kernel_rfl) (by kernel_rfl) (fun _ _ _ h => h) (Or.inl ⟨by rfl, ?_⟩) Z0.out ?_
                  rotate_left
                  · intro wq hSw; have cl0 := hSw.sz.cell 5; go_simp; first | done | with_reducible rfl
                  simp only [List.getElem_toArray, List.getElem_cons_zero, List.getElem_cons_succ, Act.put, List.setIfInBounds_toArray, List.set_cons_zero, List.set_cons_succ]
                  refine wpAnyH_ready (rs := [11]) (by kernel_rfl) (by simp) ?_
                  refine AllReadyH.cons rfl (fun K0 hK0 => ?_) ?_
                  rotate_left
                  · exact AllReadyH.nil
                  refine step_func 25 #[.int .u64 (rowF S 1), .string kk, .int .i64 (k : Int), .int .i64 (c : Int)] (by rfl) rfl (by simp [Act.eval]) (fun _ _ => by kernel_rfl) ?_
                  refine (C1.out _).mono ?_
                  rintro e v1 ⟨rfl, b1⟩
                  have Z1 := hidE (Z0.out.next b1)
                  clear b1
                  refine ⟨_, rfl, ?_⟩
                  refine hK0.out _ _ (by exact Z1.out) (fun hHeld => ?_)
                  clear hK0 K0 hHeld
                  simp only [Act.put, List.setIfInBounds_toArray]
                  refine wpAnyH_ready (rs := [19]) (by kernel_rfl) (by simp) ?_
                  refine AllReadyH.cons rfl (fun K0 hK0 => ?_) ?_
                  rotate_left
                  · exact AllReadyH.nil
                  refine step_func 25 #[.int .u64 (rowF S 1), .string s, .int .i64 (k : Int), .int .i64 (c : Int)] (by rfl) rfl (by simp [Act.eval]) (fun _ _ => by kernel_rfl) ?_
                  refine (C2.out _).mono ?_
                  rintro e v2 ⟨rfl, b2⟩
                  have Z2 := hidE (Z1.out.next b2)
                  clear b2
                  refine ⟨_, rfl, ?_⟩
                  refine hK0.out _ _ (by exact Z2.out) (fun hHeld => ?_)
                  clear hK0 K0 hHeld
                  simp only [Act.put]
                  refine wpAnyH_take (i := 20) (v := ?_) rfl (by kernel_rfl) (by kernel_rfl) (by kernel_rfl) (fun _ _ _ h => h) (Or.inl ⟨by rfl, ?_⟩) Z2.out ?_
                  rotate_left
                  · intro wq hSw; go_simp; first | done | with_reducible rfl
                  simp only [List.getElem_toArray, List.getElem_cons_zero, List.getElem_cons_succ, Act.put, List.setIfInBounds_toArray, List.set_cons_zero, List.set_cons_succ]
                  refine wpAnyH_take (i := 21) (v := ?_) rfl (by kernel_rfl) (by kernel_rfl) (by kernel_rfl) (fun _ _ _ h => h) (Or.inl ⟨by rfl, ?_⟩) Z2.out ?_
                  rotate_left
                  · intro wq hSw; go_simp; first | done | with_reducible rfl
                  simp only [List.getElem_toArray, List.getElem_cons_zero, List.getElem_cons_succ, Act.put, List.setIfInBounds_toArray, List.set_cons_zero, List.set_cons_succ]
                  refine wpAnyH_done (by kernel_rfl) ?_ _
                  refine NoPanic.normal ?_
                  refine hQQ.out _ _ ?_
                  clear hQQ
                  go_wp2_with fail
                  go_roundg (m - (t + 1))
                  case measure => have := HJ.out; omega
                  case rel => exact ⟨t + 1, ov, ⟨rfl, by omega, by rw [cntK, ← HO.out, ← KK.out, if_neg (by unfold othK; rw [← HP.out.1, ← HP.out.2]; simp [PE.out]), Int.add_zero], Z2.out⟩, rfl, by go_num⟩
            · have bt : ¬ (t : Int) < (m : Int) := by omega
              obtain rfl : t = m := by omega
              have te : hi ≤ hi + ov := by rw [HO.out]; first | exact T5.out k kz rfl | exact T5.out k kz trivial | exact T5.out k kz
              have tn : ¬ hi > hi + ov := by omega
              go_wp2_with fail
              go_roundg (R - (k + 1))
              case measure => have := HG.out; omega
              case rel => exact ⟨k + 1, ⟨rfl, by omega, IK.out⟩, by go_num⟩
        · have bk : ¬ (k : Int) < (R : Int) := by omega
          go_wp2_with fail
          refine (AW.out wr).mono ?_
          rintro e u6 ⟨rfl, b6⟩
          go_wp2_with fail
          go_ret
          exact ⟨rfl, bel_trans IK.out.since b6⟩
  | true =>
    clear t3 t4
    cases ex with
    | false =>
      go_wp2_with fail
      go_loopg [14] R (fun gk i wr => ∃ k : Nat, (gk = R - k ∧ k ≤ R ∧ BndIn w wr S votes n room R c g a0 c0 a1 c1) ∧ i = .int .i64 (k : Int))
      case atStart => exact ⟨0, ⟨rfl, by omega, IN4.out⟩, rfl⟩
      case round =>
        clear IN4
        obtain ⟨k, ⟨hgk, hk, hI⟩, rfl⟩ := hrel
        have IK := hidE hI
        have HG := hidE hgk
        clear hI hgk
        have z4 : wr.cell? ⟨w.heap.size, 4, none⟩ = some (.int .i64 (R : Int)) := IK.out.sz.cell 4
        by_cases kz : k < R
        · have bk : (k : Int) < (R : Int) := by omega
          have bk0 : (0 : Int) ≤ (k : Int) := by omega
          obtain ⟨A, cap, lb, lo', hlv, hcap, hA, hL⟩ := SA.out
          have HA := hidE hA
          have HLc := hidE hL
          subst hlv
          clear hA hL
          go_wp2_with fail
          clear z4
          go_loopg [15, 85] m (fun gj o j wi => ∃ (t : Nat) (ov : Int), (gj = m - t ∧ t ≤ m ∧ ov = cntK Q (othK S c s k) t ∧ BndIn w wi S votes n room R c g a0 c0 a1 c1) ∧ o = .int .i64 ov ∧ j = .int .i64 (t : Int))
          case atStart => exact ⟨0, 0, ⟨rfl, by omega, rfl, IK.out⟩, rfl, rfl⟩
          case round =>
            clear IK
            obtain ⟨t, ov, ⟨hgj, ht, hov, hI⟩, rfl, rfl⟩ := hrel
            have IK := hidE hI
            have HJ := hidE hgj
            have HO := hidE hov
            have ov0 : 0 ≤ ov := by rw [hov]; exact cntK_nn _ _ _
            have ov1 : ov ≤ (t : Int) := by rw [hov]; exact cntK_le _ _ _
            clear hI hgj hov
            by_cases tz : t < m
            · obtain rfl := HA.out (by omega)
              have bt : (t : Int) < (m : Int) := by omega
              have bt0 : (0 : Int) ≤ (t : Int) := by omega
              obtain ⟨kk, hkk⟩ : ∃ kk, kk = Q t := ⟨_, rfl⟩
              have cl : wr.cell? ⟨lb, lo' + t, none⟩ = some (.string kk) := by rw [hkk]; exact keep_of_below IK.out.since _ _ (HLc.out t tz)
              have ks : kk.size ≤ 100 := by rw [hkk]; exact HQ.out t tz
              have KK := hidE hkk
              clear hkk
              by_cases e : kk = s
              · have q : (kk.toList == s.toList) = true := by rw [str_eq, decide_eq_true e]
                have q2 : (kk.toList != s.toList) = false := by simp [bne, q]
                have HE := hidE e
                clear e
                go_wp2_with fail
                clear cl
                refine letterQ ?_
                intro QQ hQQ
                have Z0 : Hid (BndIn w wr.drew S votes n room R c g a0 c0 a1 c1) := IK.out.next (Below.refl _ _).drew
                refine wp_region_held_drew (S := fun w2 => BndIn w w2 S votes n room R c g a0 c0 a1 c1) (by kernel_rfl) Z0.out (fun hHeld => ?_)
                clear hHeld
                generalize wr.drew = q0 at Z0 ⊢
                refine wpAnyH_take (i := 0) (v := ?_) rfl (by kernel_rfl) (by kernel_rfl) (by kernel_rfl) (fun _ _ _ h => h) (Or.inl ⟨by rfl, ?_⟩) Z0.out ?_
                rotate_left
                · intro wq hSw; go_simp; first | done | with_reducible rfl
                simp only [List.getElem_toArray, List.getElem_cons_zero, Act.put, List.setIfInBounds_toArray, List.set_cons_zero, List.set_cons_succ]
                refine wpAnyH_take (i := 1) (v := ?_) rfl (by kernel_rfl) (by kernel_rfl) (by kernel_rfl) (fun _ _ _ h => h) (Or.inl ⟨by rfl, ?_⟩) Z0.out ?_
                rotate_left
                · intro wq hSw; go_simp; first | done | with_reducible rfl
                simp only [List.getElem_toArray, List.getElem_cons_zero, List.getElem_cons_succ, Act.put, List.setIfInBounds_toArray, List.set_cons_zero, List.set_cons_succ]
                refine wpAnyH_take (i := 2) (v := ?_) rfl (by kernel_rfl) (by kernel_rfl) (by kernel_rfl) (fun _ _ _ h => h) (Or.inl ⟨by rfl, ?_⟩) Z0.out ?_
                rotate_left
                · intro wq hSw; go_simp; first | done | with_reducible rfl
                simp only [List.getElem_toArray, List.getElem_cons_zero, List.getElem_cons_succ, Act.put, List.setIfInBounds_toArray, List.set_cons_zero, List.set_cons_succ]
                refine wpAnyH_take (i := 3) (v := ?_) rfl (by kernel_rfl) (by kernel_rfl) (by kernel_rfl) (fun _ _ _ h => h) (Or.inl ⟨by rfl, ?_⟩) Z0.out ?_
                rotate_left
                · intro wq hSw; go_simp; first | done | with_reducible rfl
                simp only [List.getElem_toArray, List.getElem_cons_zero, List.getElem_cons_succ, Act.put, List.setIfInBounds_toArray, List.set_cons_zero, List.set_cons_succ]
                refine wpAnyH_take (i := 4) (v := undef) rfl (by kernel_rfl) (by kernel_rfl) (by kernel_rfl) (fun _ _ _ h => h) (Or.inr ⟨by rfl, rfl⟩) Z0.out ?_
                simp only [List.getElem_toArray, List.getElem_cons_zero, List.getElem_cons_succ, Act.put, List.setIfInBounds_toArray, List.set_cons_zero, List.set_cons_succ]
                refine wpAnyH_take (i := 5) (v := undef) rfl (by kernel_rfl) (by kernel_rfl) (by kernel_rfl) (fun _ _ _ h => h) (Or.inr ⟨by rfl, rfl⟩) Z0.out ?_
                simp only [List.getElem_toArray, List.getElem_cons_zero, List.getElem_cons_succ, Act.put, List.setIfInBounds_toArray, List.set_cons_zero, List.set_cons_succ]
                refine wpAnyH_take (i := 6) (v := undef) rfl (by kernel_rfl) (by kernel_rfl) (by kernel_rfl) (fun _ _ _ h => h) (Or.inr ⟨by rfl, rfl⟩) Z0.out ?_
                simp only [List.getElem_toArray, List.getElem_cons_zero, List.getElem_cons_succ, Act.put, List.setIfInBounds_toArray, List.set_cons_zero, List.set_cons_succ]
                refine wpAnyH_take (i := 7) (v := undef) rfl (by kernel_rfl) (by kernel_rfl) (by kernel_rfl) (fun _ _ _ h => h) (Or.inr ⟨by rfl, rfl⟩) Z0.out ?_
                simp only [List.getElem_toArray, List.getElem_cons_zero, List.getElem_cons_succ, Act.put, List.setIfInBounds_toArray, List.set_cons_zero, List.set_cons_succ]
                refine wpAnyH_take (i := 8) (v := undef) rfl (by kernel_rfl) (by kernel_rfl) (by kernel_rfl) (fun _ _ _ h => h) (Or.inr ⟨by rfl, rfl⟩) Z0.out ?_
                simp only [List.getElem_toArray, List.getElem_cons_zero, List.getElem_cons_succ, Act.put, List.setIfInBounds_toArray, List.set_cons_zero, List.set_cons_succ]
                refine wpAnyH_take (i := 9) (v := undef) rfl (by kernel_rfl) (by kernel_rfl) (by kernel_rfl) (fun _ _ _ h => h) (Or.inr ⟨by rfl, rfl⟩) Z0.out ?_
                simp only [List.getElem_toArray, List.getElem_cons_zero, List.getElem_cons_succ, Act.put, List.setIfInBounds_toArray, List.set_cons_zero, List.set_cons_succ]
                refine wpAnyH_take (i := 10) (v := undef) rfl (by kernel_rfl) (by kernel_rfl) (by kernel_rfl) (fun _ _ _ h => h) (Or.inr ⟨by rfl, rfl⟩) Z0.out ?_
                simp only [List.getElem_toArray, List.getElem_cons_zero, List.getElem_cons_succ, Act.put, List.setIfInBounds_toArray, List.set_cons_zero, List.set_cons_succ]
                refine wpAnyH_take (i := 11) (v := undef) rfl (by kernel_rfl) (by kernel_rfl) (by kernel_rfl) (fun _ _ _ h => h) (Or.inr ⟨by rfl, rfl⟩) Z0.out ?_
                simp only [List.getElem_toArray, List.getElem_cons_zero, List.getElem_cons_succ, Act.put, List.setIfInBounds_toArray, List.set_cons_zero, List.set_cons_succ]
                refine wpAnyH_take (i := 12) (v := undef) rfl (by kernel_rfl) (by kernel_rfl) (by kernel_rfl) (fun _ _ _ h => h) (Or.inr ⟨by rfl, rfl⟩) Z0.out ?_
                simp only [List.getElem_toArray, List.getElem_cons_zero, List.getElem_cons_succ, Act.put, List.setIfInBounds_toArray, List.set_cons_zero, List.set_cons_succ]
                refine wpAnyH_take (i := 13) (v := undef) rfl (by kernel_rfl) (by kernel_rfl) (by kernel_rfl) (fun _ _ _ h => h) (Or.inr ⟨by rfl, rfl⟩) Z0.out ?_
                simp only [List.getElem_toArray, List.getElem_cons_zero, List.getElem_cons_succ, Act.put, List.setIfInBounds_toArray, List.set_cons_zero, List.set_cons_succ]
                refine wpAnyH_take (i := 14) (v := undef) rfl (by kernel_rfl) (by kernel_rfl) (by kernel_rfl) (fun _ _ _ h => h) (Or.inr ⟨by rfl, rfl⟩) Z0.out ?_
                simp only [List.getElem_toArray, List.getElem_cons_zero, List.getElem_cons_succ, Act.put, List.setIfInBounds_toArray, List.set_cons_zero, List.set_cons_succ]
                refine wpAnyH_take (i := 15) (v := undef) rfl (by kernel_rfl) (by kernel_rfl) (by kernel_rfl) (fun _ _ _ h => h) (Or.inr ⟨by rfl, rfl⟩) Z0.out ?_
                simp only [List.getElem_toArray, List.getElem_cons_zero, List.getElem_cons_succ, Act.put, List.setIfInBounds_toArray, List.set_cons_zero, List.set_cons_succ]
                refine wpAnyH_take (i := 16) (v := undef) rfl (by kernel_rfl) (by kernel_rfl) (by kernel_rfl) (fun _ _ _ h => h) (Or.inr ⟨by rfl, rfl⟩) Z0.out ?_
                simp only [List.getElem_toArray, List.getElem_cons_zero, List.getElem_cons_succ, Act.put, List.setIfInBounds_toArray, List.set_cons_zero, List.set_cons_succ]
                refine wpAnyH_take (i := 17) (v := undef) rfl (by kernel_rfl) (by kernel_rfl) (by kernel_rfl) (fun _ _ _ h => h) (Or.inr ⟨by rfl, rfl⟩) Z0.out ?_
                simp only [List.getElem_toArray, List.getElem_cons_zero, List.getElem_cons_succ, Act.put, List.setIfInBounds_toArray, List.set_cons_zero, List.set_cons_succ]
                refine wpAnyH_take (i := 18) (v := undef) rfl (by kernel_rfl) (by kernel_rfl) (by kernel_rfl) (fun _ _ _ h => h) (Or.inr ⟨by rfl, rfl⟩) Z0.out ?_
                simp only [List.getElem_toArray, List.getElem_cons_zero, List.getElem_cons_succ, Act.put, List.setIfInBounds_toArray, List.set_cons_zero, List.set_cons_succ]
                refine wpAnyH_take (i := 19) (v := undef) rfl (by kernel_rfl) (by kernel_rfl) (by kernel_rfl) (fun _ _ _ h => h) (Or.inr ⟨by rfl, rfl⟩) Z0.out ?_
                simp only [List.getElem_toArray, List.getElem_cons_zero, List.getElem_cons_succ, Act.put, List.setIfInBounds_toArray, List.set_cons_zero, List.set_cons_succ]
                refine wpAnyH_take (i := 20) (v := undef) rfl (by kernel_rfl) (by kernel_rfl) (by kernel_rfl) (fun _ _ _ h => h) (Or.inr ⟨by rfl, rfl⟩) Z0.out ?_
                simp only [List.getElem_toArray, List.getElem_cons_zero, List.getElem_cons_succ, Act.put, List.setIfInBounds_toArray, List.set_cons_zero, List.set_cons_succ]
                refine wpAnyH_take (i := 21) (v := ?_) rfl (by kernel_rfl) (by kernel_rfl) (by kernel_rfl) (fun _ _ _ h => h) (Or.inl ⟨by rfl, ?_⟩) Z0.out ?_
                rotate_left
                · intro wq hSw; go_simp; first | done | with_reducible rfl
                simp only [List.getElem_toArray, List.getElem_cons_zero, List.getElem_cons_succ, Act.put, List.setIfInBounds_toArray, List.set_cons_zero, List.set_cons_succ]
                refine wpAnyH_done (by kernel_rfl) ?_ _
                refine NoPanic.normal ?_
                refine hQQ.out _ _ ?_
                clear hQQ
                go_wp2_with fail
                go_roundg (m - (t + 1))
                case measure => have := HJ.out; omega
                case rel => exact ⟨t + 1, ov, ⟨rfl, by omega, by rw [cntK, ← HO.out, ← KK.out, if_neg (by unfold othK; simp [HE.out]), Int.add_zero], Z0.out⟩, rfl, by go_num⟩
              · have q : (kk.toList == s.toList) = false := by rw [str_eq, decide_eq_false e]
                have q2 : (kk.toList != s.toList) = true := by simp [bne, q]
                have HE := hidE e
                clear e
                obtain ⟨p1, hp1⟩ : ∃ p1, p1 = placeN (rowF S 1) kk c k := ⟨_, rfl⟩
                obtain ⟨p2, hp2⟩ : ∃ p2, p2 = placeN (rowF S 1) s c k := ⟨_, rfl⟩
                have C1 : Hid (∀ u, Calls Try.prog 25 #[.int .u64 (rowF S 1), .string kk, .int .i64 (k : Int), .int .i64 (c : Int)] u fun e w' => e = .returned (.int .i64 (p1 : Int)) ∧ Below u.heap.size u w') := fun u => by rw [hp1]; exact rlcell_any (rowF S 1) kk k c u (rowF_U S 1) (by omega) (by omega) c1' (by omega)
                have C2 : Hid (∀ u, Calls Try.prog 25 #[.int .u64 (rowF S 1), .string s, .int .i64 (k : Int), .int .i64 (c : Int)] u fun e w' => e = .returned (.int .i64 (p2 : Int)) ∧ Below u.heap.size u w') := fun u => by rw [hp2]; exact rlcell_any (rowF S 1) s k c u (rowF_U S 1) (by omega) (by omega) c1' (by omega)
                have HP := hidE (And.intro hp1 hp2)
                clear hp1 hp2
                by_cases pe : p1 = p2
                · have qp : ((p1 : Int) == (p2 : Int)) = true := by rw [pe]; simp
                  have PE := hidE pe
                  clear pe
                  go_wp2_with fail
                  clear cl
                  refine letterQ ?_
                  intro QQ hQQ
                  have Z0 : Hid (BndIn w wr.drew S votes n room R c g a0 c0 a1 c1) := IK.out.next (Below.refl _ _).drew
                  refine wp_region_held_drew (S := fun w2 => BndIn w w2 S votes n room R c g a0 c0 a1 c1) (by kernel_rfl) Z0.out (fun hHeld => ?_)
                  clear hHeld
                  generalize wr.drew = q0 at Z0 ⊢
                  refine wpAnyH_take (i := 0) (v := ?_) rfl (by kernel_rfl) (by kernel_rfl) (by kernel_rfl) (fun _ _ _ h => h) (Or.inl ⟨by rfl, ?_⟩) Z0.out ?_
                  rotate_left
                  · intro wq hSw; go_simp; first | done | with_reducible rfl
                  simp only [List.getElem_toArray, List.getElem_cons_zero, Act.put, List.setIfInBounds_toArray, List.set_cons_zero, List.set_cons_succ]
                  refine wpAnyH_take (i := 1) (v := ?_) rfl (by kernel_rfl) (by kernel_rfl) (by kernel_rfl) (fun _ _ _ h => h) (Or.inl ⟨by rfl, ?_⟩) Z0.out ?_
                  rotate_left
                  · intro wq hSw; go_simp; first | done | with_reducible rfl
                  simp only [List.getElem_toArray, List.getElem_cons_zero, List.getElem_cons_succ, Act.put, List.setIfInBounds_toArray, List.set_cons_zero, List.set_cons_succ]
                  refine wpAnyH_take (i := 2) (v := ?_) rfl (by kernel_rfl) (by kernel_rfl) (by kernel_rfl) (fun _ _ _ h => h) (Or.inl ⟨by rfl, ?_⟩) Z0.out ?_
                  rotate_left
                  · intro wq hSw; go_simp; first | done | with_reducible rfl
                  simp only [List.getElem_toArray, List.getElem_cons_zero, List.getElem_cons_succ, Act.put, List.setIfInBounds_toArray, List.set_cons_zero, List.set_cons_succ]
                  refine wpAnyH_take (i := 3) (v := ?_) rfl (by kernel_rfl) (by kernel_rfl) (by kernel_rfl) (fun _ _ _ h => h) (Or.inl ⟨by rfl, ?_⟩) Z0.out ?_
                  rotate_left
                  · intro wq hSw; go_simp; first | done | with_reducible rfl
                  simp only [List.getElem_toArray, List.getElem_cons_zero, List.getElem_cons_succ, Act.put, List.setIfInBounds_toArray, List.set_cons_zero, List.set_cons_succ]
                  refine wpAnyH_take (i := 4) (v := ?_) rfl (by kernel_rfl) (by kernel_rfl) (by kernel_rfl) (fun _ _ _ h => h) (Or.inl ⟨by rfl, ?_⟩) Z0.out ?_
                  rotate_left
                  · intro wq hSw; go_simp; first | done | with_reducible rfl
                  simp only [List.getElem_toArray, List.getElem_cons_zero, List.getElem_cons_succ, Act.put, List.setIfInBounds_toArray, List.set_cons_zero, List.set_cons_succ]
                  refine wpAnyH_take (i := 5) (v := ?_) rfl (by kernel_rfl) (by kernel_rfl) (by kernel_rfl) (fun _ _ _ h => h) (Or.inl ⟨by rfl, ?_⟩) Z0.out ?_
                  rotate_left
                  · intro wq hSw; go_simp; first | done | with_reducible rfl
                  simp only [List.getElem_toArray, List.getElem_cons_zero, List.getElem_cons_succ, Act.put, List.setIfInBounds_toArray, List.set_cons_zero, List.set_cons_succ]
                  refine wpAnyH_take (i := 6) (v := ?_) rfl (by kernel_rfl) (by kernel_rfl) (by kernel_rfl) (fun _ _ _ h => h) (Or.inl ⟨by rfl, ?_⟩) Z0.out ?_
                  rotate_left
                  · intro wq hSw; have cl0 := hSw.sk.cell 4; go_simp; first | done | with_reducible rfl
                  simp only [List.getElem_toArray, List.getElem_cons_zero, List.getElem_cons_succ, Act.put, List.setIfInBounds_toArray, List.set_cons_zero, List.set_cons_succ]
                  refine wpAnyH_take (i := 7) (v := ?_) rfl (by kernel_rfl) (by kernel_rfl) (by kernel_rfl) (fun _ _ _ h => h) (Or.inl ⟨by rfl, ?_⟩) Z0.out ?_
                  rotate_left
                  · intro wq hSw; go_simp; first | done | with_reducible rfl
                  simp only [List.getElem_toArray, List.getElem_cons_zero, List.getElem_cons_succ, Act.put, List.setIfInBounds_toArray, List.set_cons_zero, List.set_cons_succ]
                  refine wpAnyH_take (i := 8) (v := ?_) rfl (by kernel_rfl) (by kernel_rfl) (by kernel_rfl) (fun _ _ _ h => h) (Or.inl ⟨by rfl, ?_⟩) Z0.out ?_
                  rotate_left
                  · intro wq hSw; go_simp; first | done | with_reducible rfl
                  simp only [List.getElem_toArray, List.getElem_cons_zero, List.getElem_cons_succ, Act.put, List.setIfInBounds_toArray, List.set_cons_zero, List.set_cons_succ]
                  refine wpAnyH_take (i := 9) (v := ?_) rfl (by kernel_rfl) (by kernel_rfl) (by kernel_rfl) (fun _ _ _ h => h) (Or.inl ⟨by rfl, ?_⟩) Z0.out ?_
                  rotate_left
                  · intro wq hSw; go_simp; first | done | with_reducible rfl
                  simp only [List.getElem_toArray, List.getElem_cons_zero, List.getElem_cons_succ, Act.put, List.setIfInBounds_toArray, List.set_cons_zero, List.set_cons_succ]
                  refine wpAnyH_take (i := 10) (v := ?_) rfl (by kernel_rfl) (by kernel_rfl) (by kernel_rfl) (fun _ _ _ h => h) (Or.inl ⟨by rfl, ?_⟩) Z0.out ?_
                  rotate_left
                  · intro wq hSw; have cl0 := hSw.sz.cell 5; go_simp; first | done | with_reducible rfl
                  simp only [List.getElem_toArray, List.getElem_cons_zero, List.getElem_cons_succ, Act.put, List.setIfInBounds_toArray, List.set_cons_zero, List.set_cons_succ]
                  refine wpAnyH_take (i := 12) (v := ?_) rfl (by kernel_rfl) (by kernel_rfl) (by kernel_rfl) (fun _ _ _ h => h) (Or.inl ⟨by rfl, ?_⟩) Z0.out ?_
                  rotate_left
                  · intro wq hSw; go_simp; first | done | with_reducible rfl
                  simp only [List.getElem_toArray, List.getElem_cons_zero, List.getElem_cons_succ, Act.put, List.setIfInBounds_toArray, List.set_cons_zero, List.set_cons_succ]
                  refine wpAnyH_take (i := 13) (v := ?_) rfl (by kernel_rfl) (by kernel_rfl) (by kernel_rfl) (fun _ _ _ h => h) (Or.inl ⟨by rfl, ?_⟩) Z0.out ?_
                  rotate_left
                  · intro wq hSw; go_simp; first | done | with_reducible rfl
                  simp only [List.getElem_toArray, List.getElem_cons_zero, List.getElem_cons_succ, Act.put, List.setIfInBounds_toArray, List.set_cons_zero, List.set_cons_succ]
                  refine wpAnyH_take (i := 14) (v := ?_) rfl (by kernel_rfl) (by kernel_rfl) (by kernel_rfl) (fun _ _ _ h => h) (Or.inl ⟨by rfl, ?_⟩) Z0.out ?_
                  rotate_left
                  · intro wq hSw; have cl0 := hSw.sk.cell 4; go_simp; first | done | with_reducible rfl
                  simp only [List.getElem_toArray, List.getElem_cons_zero, List.getElem_cons_succ, Act.put, List.setIfInBounds_toArray, List.set_cons_zero, List.set_cons_succ]
                  refine wpAnyH_take (i := 15) (v := ?_) rfl (by kernel_rfl) (by kernel_rfl) (by kernel_rfl) (fun _ _ _ h => h) (Or.inl ⟨by rfl, ?_⟩) Z0.out ?_
                  rotate_left
                  · intro wq hSw; go_simp; first | done | with_reducible rfl
                  simp only [List.getElem_toArray, List.getElem_cons_zero, List.getElem_cons_succ, Act.put, List.setIfInBounds_toArray, List.set_cons_zero, List.set_cons_succ]
                  refine wpAnyH_take (i := 16) (v := ?_) rfl (by kernel_rfl) (by kernel_rfl) (by kernel_rfl) (fun _ _ _ h => h) (Or.inl ⟨by rfl, ?_⟩) Z0.out ?_
                  rotate_left
                  · intro wq hSw; go_simp; first | done | with_reducible rfl
                  simp only [List.getElem_toArray, List.getElem_cons_zero, List.getElem_cons_succ, Act.put, List.setIfInBounds_toArray, List.set_cons_zero, List.set_cons_succ]
                  refine wpAnyH_take (i := 17) (v := ?_) rfl (by kernel_rfl) (by kernel_rfl) (by kernel_rfl) (fun _ _ _ h => h) (Or.inl ⟨by rfl, ?_⟩) Z0.out ?_
                  rotate_left
                  · intro wq hSw; go_simp; first | done | with_reducible rfl
                  simp only [List.getElem_toArray, List.getElem_cons_zero, List.getElem_cons_succ, Act.put, List.setIfInBounds_toArray, List.set_cons_zero, List.set_cons_succ]
                  refine wpAnyH_take (i := 18) (v := ?_) rfl (by kernel_rfl) (by kernel_rfl) (by kernel_rfl) (fun _ _ _ h => h) (Or.inl ⟨by rfl, ?_⟩) Z0.out ?_
                  rotate_left
                  · intro wq hSw; have cl0 := hSw.sz.cell 5; go_simp; first | done | with_reducible rfl
                  simp only [List.getElem_toArray, List.getElem_cons_zero, List.getElem_cons_succ, Act.put, List.setIfInBounds_toArray, List.set_cons_zero, List.set_cons_succ]
                  refine wpAnyH_ready (rs := [11]) (by kernel_rfl) (by simp) ?_
                  refine AllReadyH.cons rfl (fun K0 hK0 => ?_) ?_
                  rotate_left
                  · exact AllReadyH.nil
                  refine step_func 25 #[.int .u64 (rowF S 1), .string kk, .int .i64 (k : Int), .int .i64 (c : Int)] (by rfl) rfl (by simp [Act.eval]) (fun _ _ => by kernel_rfl) ?_
                  refine (C1.out _).mono ?_
                  rintro e v1 ⟨rfl, b1⟩
                  have Z1 := hidE (Z0.out.next b1)
                  clear b1
                  refine ⟨_, rfl, ?_⟩
                  refine hK0.out _ _ (by exact Z1.out) (fun hHeld => ?_)
                  clear hK0 K0 hHeld
                  simp only [Act.put, List.setIfInBounds_toArray]
                  refine wpAnyH_ready (rs := [19]) (by kernel_rfl) (by simp) ?_
                  refine AllReadyH.cons rfl (fun K0 hK0 => ?_) ?_
                  rotate_left
                  · exact AllReadyH.nil
                  refine step_func 25 #[.int .u64 (rowF S 1), .string s, .int .i64 (k : Int), .int .i64 (c : Int)] (by rfl) rfl (by simp [Act.eval]) (fun _ _ => by kernel_rfl) ?_
                  refine (C2.out _).mono ?_
                  rintro e v2 ⟨rfl, b2⟩
                  have Z2 := hidE (Z1.out.next b2)
                  clear b2
                  refine ⟨_, rfl, ?_⟩
                  refine hK0.out _ _ (by exact Z2.out) (fun hHeld => ?_)
                  clear hK0 K0 hHeld
                  simp only [Act.put]
                  refine wpAnyH_take (i := 20) (v := ?_) rfl (by kernel_rfl) (by kernel_rfl) (by kernel_rfl) (fun _ _ _ h => h) (Or.inl ⟨by rfl, ?_⟩) Z2.out ?_
                  rotate_left
                  · intro wq hSw; go_simp; first | done | with_reducible rfl
                  simp only [List.getElem_toArray, List.getElem_cons_zero, List.getElem_cons_succ, Act.put, List.setIfInBounds_toArray, List.set_cons_zero, List.set_cons_succ]
                  refine wpAnyH_take (i := 21) (v := ?_) rfl (by kernel_rfl) (by kernel_rfl) (by kernel_rfl) (fun _ _ _ h => h) (Or.inl ⟨by rfl, ?_⟩) Z2.out ?_
                  rotate_left
                  · intro wq hSw; go_simp; first | done | with_reducible rfl
                  simp only [List.getElem_toArray, List.getElem_cons_zero, List.getElem_cons_succ, Act.put, List.setIfInBounds_toArray, List.set_cons_zero, List.set_cons_succ]
                  refine wpAnyH_done (by kernel_rfl) ?_ _
                  refine NoPanic.normal ?_
                  refine hQQ.out _ _ ?_
                  clear hQQ
                  go_wp2_with fail
                  go_roundg (m - (t + 1))
                  case measure => have := HJ.out; omega
                  case rel => exact ⟨t + 1, ov + 1, ⟨rfl, by omega, by rw [cntK, ← HO.out, ← KK.out, if_pos (by unfold othK; rw [← HP.out.1, ← HP.out.2]; simp [PE.out, HE.out])], Z2.out⟩, by go_num, by go_num⟩
                · have qp : ((p1 : Int) == (p2 : Int)) = false := by simp; omega
                  have PE := hidE pe
                  clear pe
                  go_wp2_with fail
                  clear cl
                  refine letterQ ?_
                  intro QQ hQQ
                  have Z0 : Hid (BndIn w wr.drew S votes n room R c g a0 c0 a1 c1) := IK.out.next (Below.refl _ _).drew
                  refine wp_region_held_drew (S := fun w2 => BndIn w w2 S votes n room R c g a0 c0 a1 c1) (by kernel_rfl) Z0.out (fun hHeld => ?_)
                  clear hHeld
                  generalize wr.drew = q0 at Z0 ⊢
                  refine wpAnyH_take (i := 0) (v := ?_) rfl (by kernel_rfl) (by kernel_rfl) (by kernel_rfl) (fun _ _ _ h => h) (Or.inl ⟨by rfl, ?_⟩) Z0.out ?_
                  rotate_left
                  · intro wq hSw; go_simp; first | done | with_reducible rfl
                  simp only [List.getElem_toArray, List.getElem_cons_zero, Act.put, List.setIfInBounds_toArray, List.set_cons_zero, List.set_cons_succ]
                  refine wpAnyH_take (i := 1) (v := ?_) rfl (by kernel_rfl) (by kernel_rfl) (by kernel_rfl) (fun _ _ _ h => h) (Or.inl ⟨by rfl, ?_⟩) Z0.out ?_
                  rotate_left
                  · intro wq hSw; go_simp; first | done | with_reducible rfl
                  simp only [List.getElem_toArray, List.getElem_cons_zero, List.getElem_cons_succ, Act.put, List.setIfInBounds_toArray, List.set_cons_zero, List.set_cons_succ]
                  refine wpAnyH_take (i := 2) (v := ?_) rfl (by kernel_rfl) (by kernel_rfl) (by kernel_rfl) (fun _ _ _ h => h) (Or.inl ⟨by rfl, ?_⟩) Z0.out ?_
                  rotate_left
                  · intro wq hSw; go_simp; first | done | with_reducible rfl
                  simp only [List.getElem_toArray, List.getElem_cons_zero, List.getElem_cons_succ, Act.put, List.setIfInBounds_toArray, List.set_cons_zero, List.set_cons_succ]
                  refine wpAnyH_take (i := 3) (v := ?_) rfl (by kernel_rfl) (by kernel_rfl) (by kernel_rfl) (fun _ _ _ h => h) (Or.inl ⟨by rfl, ?_⟩) Z0.out ?_
                  rotate_left
                  · intro wq hSw; go_simp; first | done | with_reducible rfl
                  simp only [List.getElem_toArray, List.getElem_cons_zero, List.getElem_cons_succ, Act.put, List.setIfInBounds_toArray, List.set_cons_zero, List.set_cons_succ]
                  refine wpAnyH_take (i := 4) (v := ?_) rfl (by kernel_rfl) (by kernel_rfl) (by kernel_rfl) (fun _ _ _ h => h) (Or.inl ⟨by rfl, ?_⟩) Z0.out ?_
                  rotate_left
                  · intro wq hSw; go_simp; first | done | with_reducible rfl
                  simp only [List.getElem_toArray, List.getElem_cons_zero, List.getElem_cons_succ, Act.put, List.setIfInBounds_toArray, List.set_cons_zero, List.set_cons_succ]
                  refine wpAnyH_take (i := 5) (v := ?_) rfl (by kernel_rfl) (by kernel_rfl) (by kernel_rfl) (fun _ _ _ h => h) (Or.inl ⟨by rfl, ?_⟩) Z0.out ?_
                  rotate_left
                  · intro wq hSw; go_simp; first | done | with_reducible rfl
                  simp only [List.getElem_toArray, List.getElem_cons_zero, List.getElem_cons_succ, Act.put, List.setIfInBounds_toArray, List.set_cons_zero, List.set_cons_succ]
                  refine wpAnyH_take (i := 6) (v := ?_) rfl (by kernel_rfl) (by kernel_rfl) (by kernel_rfl) (fun _ _ _ h => h) (Or.inl ⟨by rfl, ?_⟩) Z0.out ?_
                  rotate_left
                  · intro wq hSw; have cl0 := hSw.sk.cell 4; go_simp; first | done | with_reducible rfl
                  simp only [List.getElem_toArray, List.getElem_cons_zero, List.getElem_cons_succ, Act.put, List.setIfInBounds_toArray, List.set_cons_zero, List.set_cons_succ]
                  refine wpAnyH_take (i := 7) (v := ?_) rfl (by kernel_rfl) (by kernel_rfl) (by kernel_rfl) (fun _ _ _ h => h) (Or.inl ⟨by rfl, ?_⟩) Z0.out ?_
                  rotate_left
                  · intro wq hSw; go_simp; first | done | with_reducible rfl
                  simp only [List.getElem_toArray, List.getElem_cons_zero, List.getElem_cons_succ, Act.put, List.setIfInBounds_toArray, List.set_cons_zero, List.set_cons_succ]
                  refine wpAnyH_take (i := 8) (v := ?_) rfl (by kernel_rfl) (by kernel_rfl) (by kernel_rfl) (fun _ _ _ h => h) (Or.inl ⟨by rfl, ?_⟩) Z0.out ?_
                  rotate_left
                  · intro wq hSw; go_simp; first | done | with_reducible rfl
                  simp only [List.getElem_toArray, List.getElem_cons_zero, List.getElem_cons_succ, Act.put, List.setIfInBounds_toArray, List.set_cons_zero, List.set_cons_succ]
                  refine wpAnyH_take (i := 9) (v := ?_) rfl (by kernel_rfl) (by kernel_rfl) (by kernel_rfl) (fun _ _ _ h => h) (Or.inl ⟨by rfl, ?_⟩) Z0.out ?_
                  rotate_left
                  · intro wq hSw; go_simp; first | done | with_reducible rfl
                  simp only [List.getElem_toArray, List.getElem_cons_zero, List.getElem_cons_succ, Act.put, List.setIfInBounds_toArray, List.set_cons_zero, List.set_cons_succ]
                  refine wpAnyH_take (i := 10) (v := ?_) rfl (by kernel_rfl) (by kernel_rfl) (by kernel_rfl) (fun _ _ _ h => h) (Or.inl ⟨by rfl, ?_⟩) Z0.out ?_
                  rotate_left
                  · intro wq hSw; have cl0 := hSw.sz.cell 5; go_simp; first | done | with_reducible rfl
                  simp only [List.getElem_toArray, List.getElem_cons_zero, List.getElem_cons_succ, Act.put, List.setIfInBounds_toArray, List.set_cons_zero, List.set_cons_succ]
                  refine wpAnyH_take (i := 12) (v := ?_) rfl (by kernel_rfl) (by kernel_rfl) (by kernel_rfl) (fun _ _ _ h => h) (Or.inl ⟨by rfl, ?_⟩) Z0.out ?_
                  rotate_left
                  · intro wq hSw; go_simp; first | done | with_reducible rfl
                  simp only [List.getElem_toArray, List.getElem_cons_zero, List.getElem_cons_succ, Act.put, List.setIfInBounds_toArray, List.set_cons_zero, List.set_cons_succ]
                  refine wpAnyH_take (i := 13) (v := ?_) rfl (by kernel_rfl) (by kernel_rfl) (by kernel_rfl) (fun _ _ _ h => h) (Or.inl ⟨by rfl, ?_⟩) Z0.out ?_
                  rotate_left
                  · intro wq hSw; go_simp; first | done | with_reducible rfl
                  simp only [List.getElem_toArray, List.getElem_cons_zero, List.getElem_cons_succ, Act.put, List.setIfInBounds_toArray, List.set_cons_zero, List.set_cons_succ]
                  refine wpAnyH_take (i := 14) (v := ?_) rfl (by kernel_rfl) (by kernel_rfl) (by kernel_rfl) (fun _ _ _ h => h) (Or.inl ⟨by rfl, ?_⟩) Z0.out ?_
                  rotate_left
                  · intro wq hSw; have cl0 := hSw.sk.cell 4; go_simp; first | done | with_reducible rfl
                  simp only [List.getElem_toArray, List.getElem_cons_zero, List.getElem_cons_succ, Act.put, List.setIfInBounds_toArray, List.set_cons_zero, List.set_cons_succ]
                  refine wpAnyH_take (i := 15) (v := ?_) rfl (by kernel_rfl) (by kernel_rfl) (by kernel_rfl) (fun _ _ _ h => h) (Or.inl ⟨by rfl, ?_⟩) Z0.out ?_
                  rotate_left
                  · intro wq hSw; go_simp; first | done | with_reducible rfl
                  simp only [List.getElem_toArray, List.getElem_cons_zero, List.getElem_cons_succ, Act.put, List.setIfInBounds_toArray, List.set_cons_zero, List.set_cons_succ]
                  refine wpAnyH_take (i := 16) (v := ?_) rfl (by kernel_rfl) (by kernel_rfl) (by kernel_rfl) (fun _ _ _ h => h) (Or.inl ⟨by rfl, ?_⟩) Z0.out ?_
                  rotate_left
                  · intro wq hSw; go_simp; first | done | with_reducible rfl
                  simp only [List.getElem_toArray, List.getElem_cons_zero, List.getElem_cons_succ, Act.put, List.setIfInBounds_toArray, List.set_cons_zero, List.set_cons_succ]
                  refine wpAnyH_take (i := 17) (v := ?_) rfl (by kernel_rfl) (by kernel_rfl) (by kernel_rfl) (fun _ _ _ h => h) (Or.inl ⟨by rfl, ?_⟩) Z0.out ?_
                  rotate_left
                  · intro wq hSw; go_simp; first | done | with_reducible rfl
                  simp only [List.getElem_toArray, List.getElem_cons_zero, List.getElem_cons_succ, Act.put, List.setIfInBounds_toArray, List.set_cons_zero, List.set_cons_succ]
                  refine wpAnyH_take (i := 18) (v := ?_) rfl (by kernel_rfl) (by kernel_rfl) (by kernel_rfl) (fun _ _ _ h => h) (Or.inl ⟨by rfl, ?_⟩) Z0.out ?_
                  rotate_left
                  · intro wq hSw; have cl0 := hSw.sz.cell 5; go_simp; first | done | with_reducible rfl
                  simp only [List.getElem_toArray, List.getElem_cons_zero, List.getElem_cons_succ, Act.put, List.setIfInBounds_toArray, List.set_cons_zero, List.set_cons_succ]
                  refine wpAnyH_ready (rs := [11]) (by kernel_rfl) (by simp) ?_
                  refine AllReadyH.cons rfl (fun K0 hK0 => ?_) ?_
                  rotate_left
                  · exact AllReadyH.nil
                  refine step_func 25 #[.int .u64 (rowF S 1), .string kk, .int .i64 (k : Int), .int .i64 (c : Int)] (by rfl) rfl (by simp [Act.eval]) (fun _ _ => by kernel_rfl) ?_
                  refine (C1.out _).mono ?_
                  rintro e v1 ⟨rfl, b1⟩
                  have Z1 := hidE (Z0.out.next b1)
                  clear b1
                  refine ⟨_, rfl, ?_⟩
                  refine hK0.out _ _ (by exact Z1.out) (fun hHeld => ?_)
                  clear hK0 K0 hHeld
                  simp only [Act.put, List.setIfInBounds_toArray]
                  refine wpAnyH_ready (rs := [19]) (by kernel_rfl) (by simp) ?_
                  refine AllReadyH.cons rfl (fun K0 hK0 => ?_) ?_
                  rotate_left
                  · exact AllReadyH.nil
                  refine step_func 25 #[.int .u64 (rowF S 1), .string s, .int .i64 (k : Int), .int .i64 (c : Int)] (by rfl) rfl (by simp [Act.eval]) (fun _ _ => by kernel_rfl) ?_
                  refine (C2.out _).mono ?_
                  rintro e v2 ⟨rfl, b2⟩
                  have Z2 := hidE (Z1.out.next b2)
                  clear b2
                  refine ⟨_, rfl, ?_⟩
                  refine hK0.out _ _ (by exact Z2.out) (fun hHeld => ?_)
                  clear hK0 K0 hHeld
                  simp only [Act.put]
                  refine wpAnyH_take (i := 20) (v := ?_) rfl (by kernel_rfl) (by kernel_rfl) (by kernel_rfl) (fun _ _ _ h => h) (Or.inl ⟨by rfl, ?_⟩) Z2.out ?_
                  rotate_left
                  · intro wq hSw; go_simp; first | done | with_reducible rfl
                  simp only [List.getElem_toArray, List.getElem_cons_zero, List.getElem_cons_succ, Act.put, List.setIfInBounds_toArray, List.set_cons_zero, List.set_cons_succ]
                  refine wpAnyH_take (i := 21) (v := ?_) rfl (by kernel_rfl) (by kernel_rfl) (by kernel_rfl) (fun _ _ _ h => h) (Or.inl ⟨by rfl, ?_⟩) Z2.out ?_
                  rotate_left
                  · intro wq hSw; go_simp; first | done | with_reducible rfl
                  simp only [List.getElem_toArray, List.getElem_cons_zero, List.getElem_cons_succ, Act.put, List.setIfInBounds_toArray, List.set_cons_zero, List.set_cons_succ]
                  refine wpAnyH_done (by kernel_rfl) ?_ _
                  refine NoPanic.normal ?_
                  refine hQQ.out _ _ ?_
                  clear hQQ
                  go_wp2_with fail
                  go_roundg (m - (t + 1))
                  case measure => have := HJ.out; omega
                  case rel => exact ⟨t + 1, ov, ⟨rfl, by omega, by rw [cntK, ← HO.out, ← KK.out, if_neg (by unfold othK; rw [← HP.out.1, ← HP.out.2]; simp [PE.out]), Int.add_zero], Z2.out⟩, rfl, by go_num⟩
            · have bt : ¬ (t : Int) < (m : Int) := by omega
              obtain rfl : t = m := by omega
              go_wp2_with fail
              go_roundg (R - (k + 1))
              case measure => have := HG.out; omega
              case rel => exact ⟨k + 1, ⟨rfl, by omega, IK.out⟩, by go_num⟩
        · have bk : ¬ (k : Int) < (R : Int) := by omega
          go_wp2_with fail
          refine (AW.out wr).mono ?_
          rintro e u6 ⟨rfl, b6⟩
          go_wp2_with fail
          go_ret
          exact ⟨rfl, bel_trans IK.out.since b6⟩
    | true =>
      go_wp2_with fail
      go_loopg [14] R (fun gk i wr => ∃ k : Nat, (gk = R - k ∧ k ≤ R ∧ BndIn w wr S votes n room R c g a0 c0 a1 c1) ∧ i = .int .i64 (k : Int))
      case atStart => exact ⟨0, ⟨rfl, by omega, IN4.out⟩, rfl⟩
      case round =>
        clear IN4
        obtain ⟨k, ⟨hgk, hk, hI⟩, rfl⟩ := hrel
        have IK := hidE hI
        have HG := hidE hgk
        clear hI hgk
        have z4 : wr.cell? ⟨w.heap.size, 4, none⟩ = some (.int .i64 (R : Int)) := IK.out.sz.cell 4
        by_cases kz : k < R
        · have bk : (k : Int) < (R : Int) := by omega
          have bk0 : (0 : Int) ≤ (k : Int) := by omega
          obtain ⟨A, cap, lb, lo', hlv, hcap, hA, hL⟩ := SA.out
          have HA := hidE hA
          have HLc := hidE hL
          subst hlv
          clear hA hL
          go_wp2_with fail
          clear z4
          go_loopg [15, 85] m (fun gj o j wi => ∃ (t : Nat) (ov : Int), (gj = m - t ∧ t ≤ m ∧ ov = cntK Q (othK S c s k) t ∧ BndIn w wi S votes n room R c g a0 c0 a1 c1) ∧ o = .int .i64 ov ∧ j = .int .i64 (t : Int))
          case atStart => exact ⟨0, 0, ⟨rfl, by omega, rfl, IK.out⟩, rfl, rfl⟩
          case round =>
            clear IK
            obtain ⟨t, ov, ⟨hgj, ht, hov, hI⟩, rfl, rfl⟩ := hrel
            have IK := hidE hI
            have HJ := hidE hgj
            have HO := hidE hov
            have ov0 : 0 ≤ ov := by rw [hov]; exact cntK_nn _ _ _
            have ov1 : ov ≤ (t : Int) := by rw [hov]; exact cntK_le _ _ _
            clear hI hgj hov
            by_cases tz : t < m
            · obtain rfl := HA.out (by omega)
              have bt : (t : Int) < (m : Int) := by omega
              have bt0 : (0 : Int) ≤ (t : Int) := by omega
              obtain ⟨kk, hkk⟩ : ∃ kk, kk = Q t := ⟨_, rfl⟩
              have cl : wr.cell? ⟨lb, lo' + t, none⟩ = some (.string kk) := by rw [hkk]; exact keep_of_below IK.out.since _ _ (HLc.out t tz)
              have ks : kk.size ≤ 100 := by rw [hkk]; exact HQ.out t tz
              have KK := hidE hkk
              clear hkk
              by_cases e : kk = s
              · have q : (kk.toList == s.toList) = true := by rw [str_eq, decide_eq_true e]
                have q2 : (kk.toList != s.toList) = false := by simp [bne, q]
                have HE := hidE e
                clear e
                go_wp2_with fail
                clear cl
                refine letterQ ?_
                intro QQ hQQ
                have Z0 : Hid (BndIn w wr.drew S votes n room R c g a0 c0 a1 c1) := IK.out.next (Below.refl _ _).drew
                refine wp_region_held_drew (S := fun w2 => BndIn w w2 S votes n room R c g a0 c0 a1 c1) (by kernel_rfl) Z0.out (fun hHeld => ?_)
                clear hHeld
                generalize wr.drew = q0 at Z0 ⊢
                refine wpAnyH_take (i := 0) (v := ?_) rfl (by kernel_rfl) (by kernel_rfl) (by kernel_rfl) (fun _ _ _ h => h) (Or.inl ⟨by rfl, ?_⟩) Z0.out ?_
                rotate_left
                · intro wq hSw; go_simp; first | done | with_reducible rfl
                simp only [List.getElem_toArray, List.getElem_cons_zero, Act.put, List.setIfInBounds_toArray, List.set_cons_zero, List.set_cons_succ]
                refine wpAnyH_take (i := 1) (v := ?_) rfl (by kernel_rfl) (by kernel_rfl) (by kernel_rfl) (fun _ _ _ h => h) (Or.inl ⟨by rfl, ?_⟩) Z0.out ?_
                rotate_left
                · intro wq hSw; go_simp; first | done | with_reducible rfl
                simp only [List.getElem_toArray, List.getElem_cons_zero, List.getElem_cons_succ, Act.put, List.setIfInBounds_toArray, List.set_cons_zero, List.set_cons_succ]
                refine wpAnyH_take (i := 2) (v := ?_) rfl (by kernel_rfl) (by kernel_rfl) (by kernel_rfl) (fun _ _ _ h => h) (Or.inl ⟨by rfl, ?_⟩) Z0.out ?_
                rotate_left
                · intro wq hSw; go_simp; first | done | with_reducible rfl
                simp only [List.getElem_toArray, List.getElem_cons_zero, List.getElem_cons_succ, Act.put, List.setIfInBounds_toArray, List.set_cons_zero, List.set_cons_succ]
                refine wpAnyH_take (i := 3) (v := ?_) rfl (by kernel_rfl) (by kernel_rfl) (by kernel_rfl) (fun _ _ _ h => h) (Or.inl ⟨by rfl, ?_⟩) Z0.out ?_
                rotate_left
                · intro wq hSw; go_simp; first | done | with_reducible rfl
                simp only [List.getElem_toArray, List.getElem_cons_zero, List.getElem_cons_succ, Act.put, List.setIfInBounds_toArray, List.set_cons_zero, List.set_cons_succ]
                refine wpAnyH_take (i := 4) (v := undef) rfl (by kernel_rfl) (by kernel_rfl) (by kernel_rfl) (fun _ _ _ h => h) (Or.inr ⟨by rfl, rfl⟩) Z0.out ?_
                simp only [List.getElem_toArray, List.getElem_cons_zero, List.getElem_cons_succ, Act.put, List.setIfInBounds_toArray, List.set_cons_zero, List.set_cons_succ]
                refine wpAnyH_take (i := 5) (v := undef) rfl (by kernel_rfl) (by kernel_rfl) (by kernel_rfl) (fun _ _ _ h => h) (Or.inr ⟨by rfl, rfl⟩) Z0.out ?_
                simp only [List.getElem_toArray, List.getElem_cons_zero, List.getElem_cons_succ, Act.put, List.setIfInBounds_toArray, List.set_cons_zero, List.set_cons_succ]
                refine wpAnyH_take (i := 6) (v := undef) rfl (by kernel_rfl) (by kernel_rfl) (by kernel_rfl) (fun _ _ _ h => h) (Or.inr ⟨by rfl, rfl⟩) Z0.out ?_
                simp only [List.getElem_toArray, List.getElem_cons_zero, List.getElem_cons_succ, Act.put, List.setIfInBounds_toArray, List.set_cons_zero, List.set_cons_succ]
                refine wpAnyH_take (i := 7) (v := undef) rfl (by kernel_rfl) (by kernel_rfl) (by kernel_rfl) (fun _ _ _ h => h) (Or.inr ⟨by rfl, rfl⟩) Z0.out ?_
                simp only [List.getElem_toArray, List.getElem_cons_zero, List.getElem_cons_succ, Act.put, List.setIfInBounds_toArray, List.set_cons_zero, List.set_cons_succ]
                refine wpAnyH_take (i := 8) (v := undef) rfl (by kernel_rfl) (by kernel_rfl) (by kernel_rfl) (fun _ _ _ h => h) (Or.inr ⟨by rfl, rfl⟩) Z0.out ?_
                simp only [List.getElem_toArray, List.getElem_cons_zero, List.getElem_cons_succ, Act.put, List.setIfInBounds_toArray, List.set_cons_zero, List.set_cons_succ]
                refine wpAnyH_take (i := 9) (v := undef) rfl (by kernel_rfl) (by kernel_rfl) (by kernel_rfl) (fun _ _ _ h => h) (Or.inr ⟨by rfl, rfl⟩) Z0.out ?_
                simp only [List.getElem_toArray, List.getElem_cons_zero, List.getElem_cons_succ, Act.put, List.setIfInBounds_toArray, List.set_cons_zero, List.set_cons_succ]
                refine wpAnyH_take (i := 10) (v := undef) rfl (by kernel_rfl) (by kernel_rfl) (by kernel_rfl) (fun _ _ _ h => h) (Or.inr ⟨by rfl, rfl⟩) Z0.out ?_
                simp only [List.getElem_toArray, List.getElem_cons_zero, List.getElem_cons_succ, Act.put, List.setIfInBounds_toArray, List.set_cons_zero, List.set_cons_succ]
                refine wpAnyH_take (i := 11) (v := undef) rfl (by kernel_rfl) (by kernel_rfl) (by kernel_rfl) (fun _ _ _ h => h) (Or.inr ⟨by rfl, rfl⟩) Z0.out ?_
                simp only [List.getElem_toArray, List.getElem_cons_zero, List.getElem_cons_succ, Act.put, List.setIfInBounds_toArray, List.set_cons_zero, List.set_cons_succ]
                refine wpAnyH_take (i := 12) (v := undef) rfl (by kernel_rfl) (by kernel_rfl) (by kernel_rfl) (fun _ _ _ h => h) (Or.inr ⟨by rfl, rfl⟩) Z0.out ?_
                simp only [List.getElem_toArray, List.getElem_cons_zero, List.getElem_cons_succ, Act.put, List.setIfInBounds_toArray, List.set_cons_zero, List.set_cons_succ]
                refine wpAnyH_take (i := 13) (v := undef) rfl (by kernel_rfl) (by kernel_rfl) (by kernel_rfl) (fun _ _ _ h => h) (Or.inr ⟨by rfl, rfl⟩) Z0.out ?_
                simp only [List.getElem_toArray, List.getElem_cons_zero, List.getElem_cons_succ, Act.put, List.setIfInBounds_toArray, List.set_cons_zero, List.set_cons_succ]
                refine wpAnyH_take (i := 14) (v := undef) rfl (by kernel_rfl) (by kernel_rfl) (by kernel_rfl) (fun _ _ _ h => h) (Or.inr ⟨by rfl, rfl⟩) Z0.out ?_
                simp only [List.getElem_toArray, List.getElem_cons_zero, List.getElem_cons_succ, Act.put, List.setIfInBounds_toArray, List.set_cons_zero, List.set_cons_succ]
                refine wpAnyH_take (i := 15) (v := undef) rfl (by kernel_rfl) (by kernel_rfl) (by kernel_rfl) (fun _ _ _ h => h) (Or.inr ⟨by rfl, rfl⟩) Z0.out ?_
                simp only [List.getElem_toArray, List.getElem_cons_zero, List.getElem_cons_succ, Act.put, List.setIfInBounds_toArray, List.set_cons_zero, List.set_cons_succ]
                refine wpAnyH_take (i := 16) (v := undef) rfl (by kernel_rfl) (by kernel_rfl) (by kernel_rfl) (fun _ _ _ h => h) (Or.inr ⟨by rfl, rfl⟩) Z0.out ?_
                simp only [List.getElem_toArray, List.getElem_cons_zero, List.getElem_cons_succ, Act.put, List.setIfInBounds_toArray, List.set_cons_zero, List.set_cons_succ]
                refine wpAnyH_take (i := 17) (v := undef) rfl (by kernel_rfl) (by kernel_rfl) (by kernel_rfl) (fun _ _ _ h => h) (Or.inr ⟨by rfl, rfl⟩) Z0.out ?_
                simp only [List.getElem_toArray, List.getElem_cons_zero, List.getElem_cons_succ, Act.put, List.setIfInBounds_toArray, List.set_cons_zero, List.set_cons_succ]
                refine wpAnyH_take (i := 18) (v := undef) rfl (by kernel_rfl) (by kernel_rfl) (by kernel_rfl) (fun _ _ _ h => h) (Or.inr ⟨by rfl, rfl⟩) Z0.out ?_
                simp only [List.getElem_toArray, List.getElem_cons_zero, List.getElem_cons_succ, Act.put, List.setIfInBounds_toArray, List.set_cons_zero, List.set_cons_succ]
                refine wpAnyH_take (i := 19) (v := undef) rfl (by kernel_rfl) (by kernel_rfl) (by kernel_rfl) (fun _ _ _ h => h) (Or.inr ⟨by rfl, rfl⟩) Z0.out ?_
                simp only [List.getElem_toArray, List.getElem_cons_zero, List.getElem_cons_succ, Act.put, List.setIfInBounds_toArray, List.set_cons_zero, List.set_cons_succ]
                refine wpAnyH_take (i := 20) (v := undef) rfl (by kernel_rfl) (by kernel_rfl) (by kernel_rfl) (fun _ _ _ h => h) (Or.inr ⟨by rfl, rfl⟩) Z0.out ?_
                simp only [List.getElem_toArray, List.getElem_cons_zero, List.getElem_cons_succ, Act.put, List.setIfInBounds_toArray, List.set_cons_zero, List.set_cons_succ]
                refine wpAnyH_take (i := 21) (v := ?_) rfl (by kernel_rfl) (by kernel_rfl) (by kernel_rfl) (fun _ _ _ h => h) (Or.inl ⟨by rfl, ?_⟩) Z0.out ?_
                rotate_left
                · intro wq hSw; go_simp; first | done | with_reducible rfl
                simp only [List.getElem_toArray, List.getElem_cons_zero, List.getElem_cons_succ, Act.put, List.setIfInBounds_toArray, List.set_cons_zero, List.set_cons_succ]
                refine wpAnyH_done (by kernel_rfl) ?_ _
                refine NoPanic.normal ?_
                refine hQQ.out _ _ ?_
                clear hQQ
                go_wp2_with fail
                go_roundg (m - (t + 1))
                case measure => have := HJ.out; omega
                case rel => exact ⟨t + 1, ov, ⟨rfl, by omega, by rw [cntK, ← HO.out, ← KK.out, if_neg (by unfold othK; simp [HE.out]), Int.add_zero], Z0.out⟩, rfl, by go_num⟩
              · have q : (kk.toList == s.toList) = false := by rw [str_eq, decide_eq_false e]
                have q2 : (kk.toList != s.toList) = true := by simp [bne, q]
                have HE := hidE e
                clear e
                obtain ⟨p1, hp1⟩ : ∃ p1, p1 = placeN (rowF S 1) kk c k := ⟨_, rfl⟩
                obtain ⟨p2, hp2⟩ : ∃ p2, p2 = placeN (rowF S 1) s c k := ⟨_, rfl⟩
                have C1 : Hid (∀ u, Calls Try.prog 25 #[.int .u64 (rowF S 1), .string kk, .int .i64 (k : Int), .int .i64 (c : Int)] u fun e w' => e = .returned (.int .i64 (p1 : Int)) ∧ Below u.heap.size u w') := fun u => by rw [hp1]; exact rlcell_any (rowF S 1) kk k c u (rowF_U S 1) (by omega) (by omega) c1' (by omega)
                have C2 : Hid (∀ u, Calls Try.prog 25 #[.int .u64 (rowF S 1), .string s, .int .i64 (k : Int), .int .i64 (c : Int)] u fun e w' => e = .returned (.int .i64 (p2 : Int)) ∧ Below u.heap.size u w') := fun u => by rw [hp2]; exact rlcell_any (rowF S 1) s k c u (rowF_U S 1) (by omega) (by omega) c1' (by omega)
                have HP := hidE (And.intro hp1 hp2)
                clear hp1 hp2
                by_cases pe : p1 = p2
                · have qp : ((p1 : Int) == (p2 : Int)) = true := by rw [pe]; simp
                  have PE := hidE pe
                  clear pe
                  go_wp2_with fail
                  clear cl
                  refine letterQ ?_
                  intro QQ hQQ
                  have Z0 : Hid (BndIn w wr.drew S votes n room R c g a0 c0 a1 c1) := IK.out.next (Below.refl _ _).drew
                  refine wp_region_held_drew (S := fun w2 => BndIn w w2 S votes n room R c g a0 c0 a1 c1) (by kernel_rfl) Z0.out (fun hHeld => ?_)
                  clear hHeld
                  generalize wr.drew = q0 at Z0 ⊢
                  refine wpAnyH_take (i := 0) (v := ?_) rfl (by kernel_rfl) (by kernel_rfl) (by kernel_rfl) (fun _ _ _ h => h) (Or.inl ⟨by rfl, ?_⟩) Z0.out ?_
                  rotate_left
                  · intro wq hSw; go_simp; first | done | with_reducible rfl
                  simp only [List.getElem_toArray, List.getElem_cons_zero, Act.put, List.setIfInBounds_toArray, List.set_cons_zero, List.set_cons_succ]
                  refine wpAnyH_take (i := 1) (v := ?_) rfl (by kernel_rfl) (by kernel_rfl) (by kernel_rfl) (fun _ _ _ h => h) (Or.inl ⟨by rfl, ?_⟩) Z0.out ?_
                  rotate_left
                  · intro wq hSw; go_simp; first | done | with_reducible rfl
                  simp only [List.getElem_toArray, List.getElem_cons_zero, List.getElem_cons_succ, Act.put, List.setIfInBounds_toArray, List.set_cons_zero, List.set_cons_succ]
                  refine wpAnyH_take (i := 2) (v := ?_) rfl (by kernel_rfl) (by kernel_rfl) (by kernel_rfl) (fun _ _ _ h => h) (Or.inl ⟨by rfl, ?_⟩) Z0.out ?_
                  rotate_left
                  · intro wq hSw; go_simp; first | done | with_reducible rfl
                  simp only [List.getElem_toArray, List.getElem_cons_zero, List.getElem_cons_succ, Act.put, List.setIfInBounds_toArray, List.set_cons_zero, List.set_cons_succ]
                  refine wpAnyH_take (i := 3) (v := ?_) rfl (by kernel_rfl) (by kernel_rfl) (by kernel_rfl) (fun _ _ _ h => h) (Or.inl ⟨by rfl, ?_⟩) Z0.out ?_
                  rotate_left
                  · intro wq hSw; go_simp; first | done | with_reducible rfl
                  simp only [List.getElem_toArray, List.getElem_cons_zero, List.getElem_cons_succ, Act.put, List.setIfInBounds_toArray, List.set_cons_zero, List.set_cons_succ]
                  refine wpAnyH_take (i := 4) (v := ?_) rfl (by kernel_rfl) (by kernel_rfl) (by kernel_rfl) (fun _ _ _ h => h) (Or.inl ⟨by rfl, ?_⟩) Z0.out ?_
                  rotate_left
                  · intro wq hSw; go_simp; first | done | with_reducible rfl
                  simp only [List.getElem_toArray, List.getElem_cons_zero, List.getElem_cons_succ, Act.put, List.setIfInBounds_toArray, List.set_cons_zero, List.set_cons_succ]
                  refine wpAnyH_take (i := 5) (v := ?_) rfl (by kernel_rfl) (by kernel_rfl) (by kernel_rfl) (fun _ _ _ h => h) (Or.inl ⟨by rfl, ?_⟩) Z0.out ?_
                  rotate_left
                  · intro wq hSw; go_simp; first | done | with_reducible rfl
                  simp only [List.getElem_toArray, List.getElem_cons_zero, List.getElem_cons_succ, Act.put, List.setIfInBounds_toArray, List.set_cons_zero, List.set_cons_succ]
                  refine wpAnyH_take (i := 6) (v := ?_) rfl (by kernel_rfl) (by kernel_rfl) (by kernel_rfl) (fun _ _ _ h => h) (Or.inl ⟨by rfl, ?_⟩) Z0.out ?_
                  rotate_left
                  · intro wq hSw; have cl0 := hSw.sk.cell 4; go_simp; first | done | with_reducible rfl
                  simp only [List.getElem_toArray, List.getElem_cons_zero, List.getElem_cons_succ, Act.put, List.setIfInBounds_toArray, List.set_cons_zero, List.set_cons_succ]
                  refine wpAnyH_take (i := 7) (v := ?_) rfl (by kernel_rfl) (by kernel_rfl) (by kernel_rfl) (fun _ _ _ h => h) (Or.inl ⟨by rfl, ?_⟩) Z0.out ?_
                  rotate_left
                  · intro wq hSw; go_simp; first | done | with_reducible rfl
                  simp only [List.getElem_toArray, List.getElem_cons_zero, List.getElem_cons_succ, Act.put, List.setIfInBounds_toArray, List.set_cons_zero, List.set_cons_succ]
                  refine wpAnyH_take (i := 8) (v := ?_) rfl (by kernel_rfl) (by kernel_rfl) (by kernel_rfl) (fun _ _ _ h => h) (Or.inl ⟨by rfl, ?_⟩) Z0.out ?_
                  rotate_left
                  · intro wq hSw; go_simp; first | done | with_reducible rfl
                  simp only [List.getElem_toArray, List.getElem_cons_zero, List.getElem_cons_succ, Act.put, List.setIfInBounds_toArray, List.set_cons_zero, List.set_cons_succ]
                  refine wpAnyH_take (i := 9) (v := ?_) rfl (by kernel_rfl) (by kernel_rfl) (by kernel_rfl) (fun _ _ _ h => h) (Or.inl ⟨by rfl, ?_⟩) Z0.out ?_
                  rotate_left
                  · intro wq hSw; go_simp; first | done | with_reducible rfl
                  simp only [List.getElem_toArray, List.getElem_cons_zero, List.getElem_cons_succ, Act.put, List.setIfInBounds_toArray, List.set_cons_zero, List.set_cons_succ]
                  refine wpAnyH_take (i := 10) (v := ?_) rfl (by kernel_rfl) (by kernel_rfl) (by kernel_rfl) (fun _ _ _ h => h) (Or.inl ⟨by rfl, ?_⟩) Z0.out ?_
                  rotate_left
                  · intro wq hSw; have cl0 := hSw.sz.cell 5; go_simp; first | done | with_reducible rfl
                  simp only [List.getElem_toArray, List.getElem_cons_zero, List.getElem_cons_succ, Act.put, List.setIfInBounds_toArray, List.set_cons_zero, List.set_cons_succ]
                  refine wpAnyH_take (i := 12) (v := ?_) rfl (by kernel_rfl) (by kernel_rfl) (by kernel_rfl) (fun _ _ _ h => h) (Or.inl ⟨by rfl, ?_⟩) Z0.out ?_
                  rotate_left
                  · intro wq hSw; go_simp; first | done | with_reducible rfl
                  simp only [List.getElem_toArray, List.getElem_cons_zero, List.getElem_cons_succ, Act.put, List.setIfInBounds_toArray, List.set_cons_zero, List.set_cons_succ]
                  refine wpAnyH_take (i := 13) (v := ?_) rfl (by kernel_rfl) (by kernel_rfl) (by kernel_rfl) (fun _ _ _ h => h) (Or.inl ⟨by rfl, ?_⟩) Z0.out ?_
                  rotate_left
                  · intro wq hSw; go_simp; first | done | with_reducible rfl
                  simp only [List.getElem_toArray, List.getElem_cons_zero, List.getElem_cons_succ, Act.put, List.setIfInBounds_toArray, List.set_cons_zero, List.set_cons_succ]
                  refine wpAnyH_take (i := 14) (v := ?_) rfl (by kernel_rfl) (by kernel_rfl) (by kernel_rfl) (fun _ _ _ h => h) (Or.inl ⟨by rfl, ?_⟩) Z0.out ?_
                  rotate_left
                  · intro wq hSw; have cl0 := hSw.sk.cell 4; go_simp; first | done | with_reducible rfl
                  simp only [List.getElem_toArray, List.getElem_cons_zero, List.getElem_cons_succ, Act.put, List.setIfInBounds_toArray, List.set_cons_zero, List.set_cons_succ]
                  refine wpAnyH_take (i := 15) (v := ?_) rfl (by kernel_rfl) (by kernel_rfl) (by kernel_rfl) (fun _ _ _ h => h) (Or.inl ⟨by rfl, ?_⟩) Z0.out ?_
                  rotate_left
                  · intro wq hSw; go_simp; first | done | with_reducible rfl
                  simp only [List.getElem_toArray, List.getElem_cons_zero, List.getElem_cons_succ, Act.put, List.setIfInBounds_toArray, List.set_cons_zero, List.set_cons_succ]
                  refine wpAnyH_take (i := 16) (v := ?_) rfl (by kernel_rfl) (by kernel_rfl) (by kernel_rfl) (fun _ _ _ h => h) (Or.inl ⟨by rfl, ?_⟩) Z0.out ?_
                  rotate_left
                  · intro wq hSw; go_simp; first | done | with_reducible rfl
                  simp only [List.getElem_toArray, List.getElem_cons_zero, List.getElem_cons_succ, Act.put, List.setIfInBounds_toArray, List.set_cons_zero, List.set_cons_succ]
                  refine wpAnyH_take (i := 17) (v := ?_) rfl (by kernel_rfl) (by kernel_rfl) (by kernel_rfl) (fun _ _ _ h => h) (Or.inl ⟨by rfl, ?_⟩) Z0.out ?_
                  rotate_left
                  · intro wq hSw; go_simp; first | done | with_reducible rfl
                  simp only [List.getElem_toArray, List.getElem_cons_zero, List.getElem_cons_succ, Act.put, List.setIfInBounds_toArray, List.set_cons_zero, List.set_cons_succ]
                  refine wpAnyH_take (i := 18) (v := ?_) rfl (by kernel_rfl) (by kernel_rfl) (by kernel_rfl) (fun _ _ _ h => h) (Or.inl ⟨by rfl, ?_⟩) Z0.out ?_
                  rotate_left
                  · intro wq hSw; have cl0 := hSw.sz.cell 5; go_simp; first | done | with_reducible rfl
                  simp only [List.getElem_toArray, List.getElem_cons_zero, List.getElem_cons_succ, Act.put, List.setIfInBounds_toArray, List.set_cons_zero, List.set_cons_succ]
                  refine wpAnyH_ready (rs := [11]) (by kernel_rfl) (by simp) ?_
                  refine AllReadyH.cons rfl (fun K0 hK0 => ?_) ?_
                  rotate_left
                  · exact AllReadyH.nil
                  refine step_func 25 #[.int .u64 (rowF S 1), .string kk, .int .i64 (k : Int), .int .i64 (c : Int)] (by rfl) rfl (by simp [Act.eval]) (fun _ _ => by kernel_rfl) ?_
                  refine (C1.out _).mono ?_
                  rintro e v1 ⟨rfl, b1⟩
                  have Z1 := hidE (Z0.out.next b1)
                  clear b1
                  refine ⟨_, rfl, ?_⟩
                  refine hK0.out _ _ (by exact Z1.out) (fun hHeld => ?_)
                  clear hK0 K0 hHeld
                  simp only [Act.put, List.setIfInBounds_toArray]
                  refine wpAnyH_ready (rs := [19]) (by kernel_rfl) (by simp) ?_
                  refine AllReadyH.cons rfl (fun K0 hK0 => ?_) ?_
                  rotate_left
                  · exact AllReadyH.nil
                  refine step_func 25 #[.int .u64 (rowF S 1), .string s, .int .i64 (k : Int), .int .i64 (c : Int)] (by rfl) rfl (by simp [Act.eval]) (fun _ _ => by kernel_rfl) ?_
                  refine (C2.out _).mono ?_
                  rintro e v2 ⟨rfl, b2⟩
                  have Z2 := hidE (Z1.out.next b2)
                  clear b2
                  refine ⟨_, rfl, ?_⟩
                  refine hK0.out _ _ (by exact Z2.out) (fun hHeld => ?_)
                  clear hK0 K0 hHeld
                  simp only [Act.put]
                  refine wpAnyH_take (i := 20) (v := ?_) rfl (by kernel_rfl) (by kernel_rfl) (by kernel_rfl) (fun _ _ _ h => h) (Or.inl ⟨by rfl, ?_⟩) Z2.out ?_
                  rotate_left
                  · intro wq hSw; go_simp; first | done | with_reducible rfl
                  simp only [List.getElem_toArray, List.getElem_cons_zero, List.getElem_cons_succ, Act.put, List.setIfInBounds_toArray, List.set_cons_zero, List.set_cons_succ]
                  refine wpAnyH_take (i := 21) (v := ?_) rfl (by kernel_rfl) (by kernel_rfl) (by kernel_rfl) (fun _ _ _ h => h) (Or.inl ⟨by rfl, ?_⟩) Z2.out ?_
                  rotate_left
                  · intro wq hSw; go_simp; first | done | with_reducible rfl
                  simp only [List.getElem_toArray, List.getElem_cons_zero, List.getElem_cons_succ, Act.put, List.setIfInBounds_toArray, List.set_cons_zero, List.set_cons_succ]
                  refine wpAnyH_done (by kernel_rfl) ?_ _
                  refine NoPanic.normal ?_
                  refine hQQ.out _ _ ?_
                  clear hQQ
                  go_wp2_with fail
                  go_roundg (m - (t + 1))
                  case measure => have := HJ.out; omega
                  case rel => exact ⟨t + 1, ov + 1, ⟨rfl, by omega, by rw [cntK, ← HO.out, ← KK.out, if_pos (by unfold othK; rw [← HP.out.1, ← HP.out.2]; simp [PE.out, HE.out])], Z2.out⟩, by go_num, by go_num⟩
                · have qp : ((p1 : Int) == (p2 : Int)) = false := by simp; omega
                  have PE := hidE pe
                  clear pe
                  go_wp2_with fail
                  clear cl
                  refine letterQ ?_
                  intro QQ hQQ
                  have Z0 : Hid (BndIn w wr.drew S votes n room R c g a0 c0 a1 c1) := IK.out.next (Below.refl _ _).drew
                  refine wp_region_held_drew (S := fun w2 => BndIn w w2 S votes n room R c g a0 c0 a1 c1) (by kernel_rfl) Z0.out (fun hHeld => ?_)
                  clear hHeld
                  generalize wr.drew = q0 at Z0 ⊢
                  refine wpAnyH_take (i := 0) (v := ?_) rfl (by kernel_rfl) (by kernel_rfl) (by kernel_rfl) (fun _ _ _ h => h) (Or.inl ⟨by rfl, ?_⟩) Z0.out ?_
                  rotate_left
                  · intro wq hSw; go_simp; first | done | with_reducible rfl
                  simp only [List.getElem_toArray, List.getElem_cons_zero, Act.put, List.setIfInBounds_toArray, List.set_cons_zero, List.set_cons_succ]
                  refine wpAnyH_take (i := 1) (v := ?_) rfl (by kernel_rfl) (by kernel_rfl) (by kernel_rfl) (fun _ _ _ h => h) (Or.inl ⟨by rfl, ?_⟩) Z0.out ?_
                  rotate_left
                  · intro wq hSw; go_simp; first | done | with_reducible rfl
                  simp only [List.getElem_toArray, List.getElem_cons_zero, List.getElem_cons_succ, Act.put, List.setIfInBounds_toArray, List.set_cons_zero, List.set_cons_succ]
                  refine wpAnyH_take (i := 2) (v := ?_) rfl (by kernel_rfl) (by kernel_rfl) (by kernel_rfl) (fun _ _ _ h => h) (Or.inl ⟨by rfl, ?_⟩) Z0.out ?_
                  rotate_left
                  · intro wq hSw; go_simp; first | done | with_reducible rfl
                  simp only [List.getElem_toArray, List.getElem_cons_zero, List.getElem_cons_succ, Act.put, List.setIfInBounds_toArray, List.set_cons_zero, List.set_cons_succ]
                  refine wpAnyH_take (i := 3) (v := ?_) rfl (by kernel_rfl) (by kernel_rfl) (by kernel_rfl) (fun _ _ _ h => h) (Or.inl ⟨by rfl, ?_⟩) Z0.out ?_
                  rotate_left
                  · intro wq hSw; go_simp; first | done | with_reducible rfl
                  simp only [List.getElem_toArray, List.getElem_cons_zero, List.getElem_cons_succ, Act.put, List.setIfInBounds_toArray, List.set_cons_zero, List.set_cons_succ]
                  refine wpAnyH_take (i := 4) (v := ?_) rfl (by kernel_rfl) (by kernel_rfl) (by kernel_rfl) (fun _ _ _ h => h) (Or.inl ⟨by rfl, ?_⟩) Z0.out ?_
                  rotate_left
                  · intro wq hSw; go_simp; first | done | with_reducible rfl
                  simp only [List.getElem_toArray, List.getElem_cons_zero, List.getElem_cons_succ, Act.put, List.setIfInBounds_toArray, List.set_cons_zero, List.set_cons_succ]
                  refine wpAnyH_take (i := 5) (v := ?_) rfl (by kernel_rfl) (by kernel_rfl) (by kernel_rfl) (fun _ _ _ h => h) (Or.inl ⟨by rfl, ?_⟩) Z0.out ?_
                  rotate_left
                  · intro wq hSw; go_simp; first | done | with_reducible rfl
                  simp only [List.getElem_toArray, List.getElem_cons_zero, List.getElem_cons_succ, Act.put, List.setIfInBounds_toArray, List.set_cons_zero, List.set_cons_succ]
                  refine wpAnyH_take (i := 6) (v := ?_) rfl (by kernel_rfl) (by kernel_rfl) (by kernel_rfl) (fun _ _ _ h => h) (Or.inl ⟨by rfl, ?_⟩) Z0.out ?_
                  rotate_left
                  · intro wq hSw; have cl0 := hSw.sk.cell 4; go_simp; first | done | with_reducible rfl
                  simp only [List.getElem_toArray, List.getElem_cons_zero, List.getElem_cons_succ, Act.put, List.setIfInBounds_toArray, List.set_cons_zero, List.set_cons_succ]
                  refine wpAnyH_take (i := 7) (v := ?_) rfl (by kernel_rfl) (by kernel_rfl) (by kernel_rfl) (fun _ _ _ h => h) (Or.inl ⟨by rfl, ?_⟩) Z0.out ?_
                  rotate_left
                  · intro wq hSw; go_simp; first | done | with_reducible rfl
                  simp only [List.getElem_toArray, List.getElem_cons_zero, List.getElem_cons_succ, Act.put, List.setIfInBounds_toArray, List.set_cons_zero, List.set_cons_succ]
                  refine wpAnyH_take (i := 8) (v := ?_) rfl (by kernel_rfl) (by kernel_rfl) (by kernel_rfl) (fun _ _ _ h => h) (Or.inl ⟨by rfl, ?_⟩) Z0.out ?_
                  rotate_left
                  · intro wq hSw; go_simp; first | done | with_reducible rfl
                  simp only [List.getElem_toArray, List.getElem_cons_zero, List.getElem_cons_succ, Act.put, List.setIfInBounds_toArray, List.set_cons_zero, List.set_cons_succ]
                  refine wpAnyH_take (i := 9) (v := ?_) rfl (by kernel_rfl) (by kernel_rfl) (by kernel_rfl) (fun _ _ _ h => h) (Or.inl ⟨by rfl, ?_⟩) Z0.out ?_
                  rotate_left
                  · intro wq hSw; go_simp; first | done | with_reducible rfl
                  simp only [List.getElem_toArray, List.getElem_cons_zero, List.getElem_cons_succ, Act.put, List.setIfInBounds_toArray, List.set_cons_zero, List.set_cons_succ]
                  refine wpAnyH_take (i := 10) (v := ?_) rfl (by kernel_rfl) (by kernel_rfl) (by kernel_rfl) (fun _ _ _ h => h) (Or.inl ⟨by rfl, ?_⟩) Z0.out ?_
                  rotate_left
                  · intro wq hSw; have cl0 := hSw.sz.cell 5; go_simp; first | done | with_reducible rfl
                  simp only [List.getElem_toArray, List.getElem_cons_zero, List.getElem_cons_succ, Act.put, List.setIfInBounds_toArray, List.set_cons_zero, List.set_cons_succ]
                  refine wpAnyH_take (i := 12) (v := ?_) rfl (by kernel_rfl) (by kernel_rfl) (by kernel_rfl) (fun _ _ _ h => h) (Or.inl ⟨by rfl, ?_⟩) Z0.out ?_
                  rotate_left
                  · intro wq hSw; go_simp; first | done | with_reducible rfl
                  simp only [List.getElem_toArray, List.getElem_cons_zero, List.getElem_cons_succ, Act.put, List.setIfInBounds_toArray, List.set_cons_zero, List.set_cons_succ]
                  refine wpAnyH_take (i := 13) (v := ?_) rfl (by kernel_rfl) (by kernel_rfl) (by kernel_rfl) (fun _ _ _ h => h) (Or.inl ⟨by rfl, ?_⟩) Z0.out ?_
                  rotate_left
                  · intro wq hSw; go_simp; first | done | with_reducible rfl
                  simp only [List.getElem_toArray, List.getElem_cons_zero, List.getElem_cons_succ, Act.put, List.setIfInBounds_toArray, List.set_cons_zero, List.set_cons_succ]
                  refine wpAnyH_take (i := 14) (v := ?_) rfl (by kernel_rfl) (by kernel_rfl) (by kernel_rfl) (fun _ _ _ h => h) (Or.inl ⟨by rfl, ?_⟩) Z0.out ?_
                  rotate_left
                  · intro wq hSw; have cl0 := hSw.sk.cell 4; go_simp; first | done | with_reducible rfl
                  simp only [List.getElem_toArray, List.getElem_cons_zero, List.getElem_cons_succ, Act.put, List.setIfInBounds_toArray, List.set_cons_zero, List.set_cons_succ]
                  refine wpAnyH_take (i := 15) (v := ?_) rfl (by kernel_rfl) (by kernel_rfl) (by kernel_rfl) (fun _ _ _ h => h) (Or.inl ⟨by rfl, ?_⟩) Z0.out ?_
                  rotate_left
                  · intro wq hSw; go_simp; first | done | with_reducible rfl
                  simp only [List.getElem_toArray, List.getElem_cons_zero, List.getElem_cons_succ, Act.put, List.setIfInBounds_toArray, List.set_cons_zero, List.set_cons_succ]
                  refine wpAnyH_take (i := 16) (v := ?_) rfl (by kernel_rfl) (by kernel_rfl) (by kernel_rfl) (fun _ _ _ h => h) (Or.inl ⟨by rfl, ?_⟩) Z0.out ?_
                  rotate_left
                  · intro wq hSw; go_simp; first | done | with_reducible rfl
                  simp only [List.getElem_toArray, List.getElem_cons_zero, List.getElem_cons_succ, Act.put, List.setIfInBounds_toArray, List.set_cons_zero, List.set_cons_succ]
                  refine wpAnyH_take (i := 17) (v := ?_) rfl (by kernel_rfl) (by kernel_rfl) (by kernel_rfl) (fun _ _ _ h => h) (Or.inl ⟨by rfl, ?_⟩) Z0.out ?_
                  rotate_left
                  · intro wq hSw; go_simp; first | done | with_reducible rfl
                  simp only [List.getElem_toArray, List.getElem_cons_zero, List.getElem_cons_succ, Act.put, List.setIfInBounds_toArray, List.set_cons_zero, List.set_cons_succ]
                  refine wpAnyH_take (i := 18) (v := ?_) rfl (by kernel_rfl) (by kernel_rfl) (by kernel_rfl) (fun _ _ _ h => h) (Or.inl ⟨by rfl, ?_⟩) Z0.out ?_
                  rotate_left
                  · intro wq hSw; have cl0 := hSw.sz.cell 5; go_simp; first | done | with_reducible rfl
                  simp only [List.getElem_toArray, List.getElem_cons_zero, List.getElem_cons_succ, Act.put, List.setIfInBounds_toArray, List.set_cons_zero, List.set_cons_succ]
                  refine wpAnyH_ready (rs := [11]) (by kernel_rfl) (by simp) ?_
                  refine AllReadyH.cons rfl (fun K0 hK0 => ?_) ?_
                  rotate_left
                  · exact AllReadyH.nil
                  refine step_func 25 #[.int .u64 (rowF S 1), .string kk, .int .i64 (k : Int), .int .i64 (c : Int)] (by rfl) rfl (by simp [Act.eval]) (fun _ _ => by kernel_rfl) ?_
                  refine (C1.out _).mono ?_
                  rintro e v1 ⟨rfl, b1⟩
                  have Z1 := hidE (Z0.out.next b1)
                  clear b1
                  refine ⟨_, rfl, ?_⟩
                  refine hK0.out _ _ (by exact Z1.out) (fun hHeld => ?_)
                  clear hK0 K0 hHeld
                  simp only [Act.put, List.setIfInBounds_toArray]
                  refine wpAnyH_ready (rs := [19]) (by kernel_rfl) (by simp) ?_
                  refine AllReadyH.cons rfl (fun K0 hK0 => ?_) ?_
                  rotate_left
                  · exact AllReadyH.nil
                  refine step_func 25 #[.int .u64 (rowF S 1), .string s, .int .i64 (k : Int), .int .i64 (c : Int)] (by rfl) rfl (by simp [Act.eval]) (fun _ _ => by kernel_rfl) ?_
                  refine (C2.out _).mono ?_
                  rintro e v2 ⟨rfl, b2⟩
                  have Z2 := hidE (Z1.out.next b2)
                  clear b2
                  refine ⟨_, rfl, ?_⟩
                  refine hK0.out _ _ (by exact Z2.out) (fun hHeld => ?_)
                  clear hK0 K0 hHeld
                  simp only [Act.put]
                  refine wpAnyH_take (i := 20) (v := ?_) rfl (by kernel_rfl) (by kernel_rfl) (by kernel_rfl) (fun _ _ _ h => h) (Or.inl ⟨by rfl, ?_⟩) Z2.out ?_
                  rotate_left
                  · intro wq hSw; go_simp; first | done | with_reducible rfl
                  simp only [List.getElem_toArray, List.getElem_cons_zero, List.getElem_cons_succ, Act.put, List.setIfInBounds_toArray, List.set_cons_zero, List.set_cons_succ]
                  refine wpAnyH_take (i := 21) (v := ?_) rfl (by kernel_rfl) (by kernel_rfl) (by kernel_rfl) (fun _ _ _ h => h) (Or.inl ⟨by rfl, ?_⟩) Z2.out ?_
                  rotate_left
                  · intro wq hSw; go_simp; first | done | with_reducible rfl
                  simp only [List.getElem_toArray, List.getElem_cons_zero, List.getElem_cons_succ, Act.put, List.setIfInBounds_toArray, List.set_cons_zero, List.set_cons_succ]
                  refine wpAnyH_done (by kernel_rfl) ?_ _
                  refine NoPanic.normal ?_
                  refine hQQ.out _ _ ?_
                  clear hQQ
                  go_wp2_with fail
                  go_roundg (m - (t + 1))
                  case measure => have := HJ.out; omega
                  case rel => exact ⟨t + 1, ov, ⟨rfl, by omega, by rw [cntK, ← HO.out, ← KK.out, if_neg (by unfold othK; rw [← HP.out.1, ← HP.out.2]; simp [PE.out]), Int.add_zero], Z2.out⟩, rfl, by go_num⟩
            · have bt : ¬ (t : Int) < (m : Int) := by omega
              obtain rfl : t = m := by omega
              go_wp2_with fail
              go_roundg (R - (k + 1))
              case measure => have := HG.out; omega
              case rel => exact ⟨k + 1, ⟨rfl, by omega, IK.out⟩, by go_num⟩
        · have bk : ¬ (k : Int) < (R : Int) := by omega
          go_wp2_with fail
          refine (AW.out wr).mono ?_
          rintro e u6 ⟨rfl, b6⟩
          go_wp2_with fail
          go_ret
          exact ⟨rfl, bel_trans IK.out.since b6⟩
end Go.Proofs.Ytihealembikkiaa
