
/-
  A sketch of any numbers is told as the document says, or refused: the walk (layer 15).
-/
import Derived.Test.YtihealembikkiaaElM5
import Derived.Test.YtihealembikkiaaElLawRef
import Derived.Test.YtihealembikkiaaElRight
import Derived.Test.YtihealembikkiaaElAwake
namespace Go.Proofs.Ytihealembikkiaa
open Go.RowKit Fm Bl Lt El Hv L2 L10 L14 Go.Deep Go.Shelf
set_option linter.unusedVariables false
set_option maxRecDepth 20000
set_option linter.unusedSimpArgs false

theorem itB_none (most : Int) : ∀ n, listBs most [] (List.replicate n ⟨[], 0⟩) = []
  | 0 => rfl
  | n + 1 => by rw [List.replicate_succ, listBs, listEs]; exact itB_none most n
theorem new_right {S votes : Int} {n room R c : Nat} (sh : shapeE n room votes R c = true) : RightE (elF S room votes (List.replicate n ⟨[], 0⟩) R c (fun _ _ => 0)) := by
  have ok := ok_zero (N := n) (room := room) sh
  rw [shapeE_iff] at sh
  refine ⟨by show (1 : Int) ≤ room; omega, by show (room : Int) ≤ 8; omega, by show 1 ≤ votes; omega, by show votes ≤ 64; omega, by show 1 ≤ (List.replicate n _).length; rw [List.length_replicate]; omega, by show (List.replicate n _).length ≤ 256; rw [List.length_replicate]; omega, ok.right, rfl, rfl, fun i b hb => ?_⟩
  have hb : (List.replicate n (⟨[], 0⟩ : Bkt))[i]? = some b := hb
  rw [List.getElem?_replicate] at hb
  split at hb
  · cases hb
    exact ⟨by show ((0 : Nat) : Int) ≤ (room : Int); omega, by show (0 : Int) ≤ 0; omega, by show (0 : Int) ≤ 1099511627776; omega, fun j e he => by cases he⟩
  · cases hb
theorem short_none (n : Nat) : ShortE (List.replicate n ⟨[], 0⟩) := fun i b hb j e he => by
  rw [List.getElem?_replicate] at hb
  split at hb
  · cases hb; cases he
  · cases hb
set_option maxHeartbeats 1600000 in
theorem news_out (C : CtrE) (w : World) (S n room votes R c : Int) (uS : U S) (i1 : I n) (i2 : I room) (i3 : I votes) (i4 : I R) (i5 : I c) (sh : shapeE n room votes R c = false) : Calls Try.prog 4 #[.int .u64 S, .int .i64 n, .int .i64 room, .int .i64 votes, .int .i64 R, .int .i64 c] w fun e w' => e = .returned (.bool true) ∧ Below w.heap.size w w' := by
  have CN := hidE (C.new_bad w S n room votes R c uS i1 i2 i3 i4 i5 sh)
  have SH := hidE (eshape_any n room votes R c)
  rw [sh] at SH
  have AW := hidE (eawake_any C)
  clear sh C
  go_enter Try.func4, Try.ntmps4
  go_wp2_with fail
  refine CN.out.mono ?_
  rintro e u1 ⟨rfl, b1⟩
  have BA : Hid (Below u1.heap.size u1 (u1.alloc (.cells #[.int .u64 0, .int .i64 0, .int .i64 0, .slice none 0 0, .int .u64 0, .int .i64 0, .slice none 0 0] 28))) := bel_alloc _ _
  have KA : Hid (Blk (u1.alloc (.cells #[.int .u64 0, .int .i64 0, .int .i64 0, .slice none 0 0, .int .u64 0, .int .i64 0, .slice none 0 0] 28)) u1.heap.size 28 #[.int .u64 0, .int .i64 0, .int .i64 0, .slice none 0 0, .int .u64 0, .int .i64 0, .slice none 0 0]) := Blk.new _ _ _
  have B1 := hidE b1
  clear b1 CN
  unfold elz
  go_wp2_with fail
  have B2 := hidE (bel_trans B1.out BA.out)
  clear BA B1
  generalize u1.alloc (.cells #[.int .u64 0, .int .i64 0, .int .i64 0, .slice none 0 0, .int .u64 0, .int .i64 0, .slice none 0 0] 28) = Y at KA B2 ⊢
  generalize u1.heap.size = gs at KA ⊢
  refine (SH.out Y).mono ?_
  rintro e Y ⟨rfl, rfl⟩
  have x3 : Y.cell? ⟨gs, 3, none⟩ = some (.slice none 0 0) := KA.out.cell 3
  go_wp2_with fail
  refine (AW.out _).mono ?_
  rintro e u3 ⟨rfl, b3⟩
  go_wp2_with fail
  go_ret
  exact ⟨rfl, bel_trans B2.out b3⟩
set_option maxHeartbeats 6400000 in
theorem news_in (C : CtrE) (w : World) (S : Int) (n room R c : Nat) (votes : Int) (uS : U S) (sh : shapeE n room votes R c = true) : Calls Try.prog 4 #[.int .u64 S, .int .i64 (n : Int), .int .i64 (room : Int), .int .i64 votes, .int .i64 (R : Int), .int .i64 (c : Int)] w fun e w' => e = .returned (.bool true) ∧ Below w.heap.size w w' := by
  have CN := hidE (C.new_ok w S n room R c votes uS sh)
  have SH := hidE (eshape_any (n : Int) (room : Int) votes (R : Int) (c : Int))
  rw [sh] at SH
  have AW := hidE (eawake_any C)
  have RT := hidE (new_right (S := S) sh)
  have SM := hidE (small_of RT.out (short_none n))
  have nb := (shapeE_iff _ _ _ _ _).1 sh
  have NB : Hid ((1 : Int) ≤ n ∧ (n : Int) ≤ 256 ∧ (1 : Int) ≤ R ∧ (R : Int) ≤ 7 ∧ (1 : Int) ≤ c ∧ (c : Int) ≤ 256) := ⟨by omega, by omega, by omega, by omega, by omega, by omega⟩
  have n256 : n ≤ 256 := by omega
  have US := hidE uS
  have LC : Hid (∀ u x, ElAt u x (elF S room votes (List.replicate n ⟨[], 0⟩) R c (fun _ _ => 0)) → Calls Try.prog 13 #[x, .int .i64 0] u fun e w' => ∃ lv, e = .returned lv ∧ NewL u w' lv [] ∧ Below u.heap.size u w') := hidE fun u x h => by
    have e := C.list_ok u x _ 0 h uS RT.out (short_none n) ⟨by omega, by omega⟩
    rw [show listBs 0 [] (elF S room votes (List.replicate n ⟨[], 0⟩) R c (fun _ _ => 0)).bs = [] from itB_none 0 n] at e
    exact e
  clear sh C nb uS
  go_enter Try.func4, Try.ntmps4
  go_wp2_with fail
  refine CN.out.mono ?_
  rintro e u1 ⟨x, rfl, hx, b1⟩
  have HX := hidE hx
  obtain ⟨A, n', cap, LA, lcap, h0n, hxx, _, _⟩ := el_parts hx.at
  have hn' : n = n' := by rw [h0n]; exact List.length_replicate.symm
  clear h0n
  subst hn'
  have hxx : x = .agg #[.int .u64 S, .int .i64 (room : Int), .int .i64 votes, .slice A n cap, .int .u64 (rowF S 1), .int .i64 255, .slice LA R lcap] := hxx
  subst hxx
  have BA : Hid (Below u1.heap.size u1 (u1.alloc (.cells #[.int .u64 S, .int .i64 (room : Int), .int .i64 votes, .slice A n cap, .int .u64 (rowF S 1), .int .i64 255, .slice LA R lcap] 28))) := bel_alloc _ _
  have KA : Hid (Blk (u1.alloc (.cells #[.int .u64 S, .int .i64 (room : Int), .int .i64 votes, .slice A n cap, .int .u64 (rowF S 1), .int .i64 255, .slice LA R lcap] 28)) u1.heap.size 28 #[.int .u64 S, .int .i64 (room : Int), .int .i64 votes, .slice A n cap, .int .u64 (rowF S 1), .int .i64 255, .slice LA R lcap]) := Blk.new _ _ _
  have B1 := hidE b1
  clear b1 hx CN
  go_wp2_with fail
  have B2 := hidE (bel_trans B1.out BA.out)
  have HY := hidE (HX.out.since BA.out)
  have GS : Hid (w.heap.size ≤ u1.heap.size) := B1.out.size
  clear BA B1 HX
  generalize u1.alloc (.cells #[.int .u64 S, .int .i64 (room : Int), .int .i64 votes, .slice A n cap, .int .u64 (rowF S 1), .int .i64 255, .slice LA R lcap] 28) = Y at KA B2 HY ⊢
  generalize u1.heap.size = gs at KA GS ⊢
  refine (SH.out Y).mono ?_
  rintro e Y ⟨rfl, rfl⟩
  clear SH
  have x0 : Y.cell? ⟨gs, 0, none⟩ = some (.int .u64 S) := KA.out.cell 0
  have x1 : Y.cell? ⟨gs, 1, none⟩ = some (.int .i64 (room : Int)) := KA.out.cell 1
  have x2 : Y.cell? ⟨gs, 2, none⟩ = some (.int .i64 votes) := KA.out.cell 2
  have x3 : Y.cell? ⟨gs, 3, none⟩ = some (.slice A n cap) := KA.out.cell 3
  have x4 : Y.cell? ⟨gs, 4, none⟩ = some (.int .u64 (rowF S 1)) := KA.out.cell 4
  have x5 : Y.cell? ⟨gs, 5, none⟩ = some (.int .i64 255) := KA.out.cell 5
  have x6 : Y.cell? ⟨gs, 6, none⟩ = some (.slice LA R lcap) := KA.out.cell 6
  have q1 : ((n : Int) != (n : Int)) = false := by simp
  have q2 : ((room : Int) != (room : Int)) = false := by simp
  have q3 : (votes != votes) = false := by simp
  have q4 : ((R : Int) != (R : Int)) = false := by simp
  go_wp2_with fail
  have ER := hidE (eref_any Y _ _ HY.out.at (by show (List.replicate n _).length * 32 ≤ _; rw [List.length_replicate]; omega) (fun i b hb => by
    have hb : (List.replicate n (⟨[], 0⟩ : Bkt))[i]? = some b := hb
    rw [List.getElem?_replicate] at hb
    split at hb
    · cases hb; show 0 * 32 ≤ _; omega
    · cases hb))
  refine ER.out.mono ?_
  rintro e u2 ⟨bv, bv', rv, hv, rfl, hk, b2⟩
  have HY2 := hidE (HY.out.since b2)
  have B3 := hidE (bel_trans B2.out b2)
  have K3 := hidE (KA.out.since b2)
  obtain ⟨_, rv2, hv2, _, hr2⟩ := HY2.out.at
  have erv : rv = rv2 := by
    have e := hv.symm.trans hv2
    unfold elv at e
    simp at e
    exact e.2
  subst erv
  have RC := hidE (eright_any u2 (elv (elF S room votes (List.replicate n ⟨[], 0⟩) R c (fun _ _ => 0)) bv' rv) _ ⟨_, _, rfl, hk.at, hr2⟩ US.out SM.out)
  clear hv hv2 hr2 hk b2 ER HY KA B2 x0 x1 x2 x3 x4 x5 x6
  unfold elv at RC ⊢
  go_wp2_with fail
  refine RC.out.mono ?_
  rintro e u3 ⟨B, rfl, hB, b3⟩
  obtain rfl : B = true := hB.2 RT.out
  have HY4 := hidE (HY2.out.since b3)
  have B4 := hidE (bel_trans B3.out b3)
  have K4 := hidE (K3.out.since b3)
  clear hB b3 RC HY2 B3 K3 q1 q2 q3 q4
  have x3 : u3.cell? ⟨gs, 3, none⟩ = some (.slice A n cap) := K4.out.cell 3
  go_wp2_with fail
  clear x3
  go_loopg [15, 82] n (fun gk s15 i wr => ∃ k : Nat, (gk = n - k ∧ k ≤ n ∧ Below u3.heap.size u3 wr) ∧ i = .int .i64 (k : Int))
  case atStart => exact ⟨0, ⟨rfl, by omega, Below.refl _ _⟩, rfl⟩
  case round =>
    obtain ⟨k, ⟨hgk, hk, hB⟩, rfl⟩ := hrel
    have HB := hidE hB
    have HK := hidE hgk
    clear hB hgk
    by_cases hz : k < n
    · obtain ⟨bv5, rv5, hv5, hb5, _⟩ := (HY4.out.since HB.out).at
      unfold elv elF at hv5
      simp at hv5
      obtain ⟨e5, e5b⟩ := hv5
      subst e5
      clear e5b
      obtain ⟨A6, c6, b6, o6, e6, _, h3, h4⟩ := hb5
      simp only [Value.slice.injEq] at e6
      obtain ⟨e7, e8, e9⟩ := e6
      subst e7 e9
      obtain rfl := h3 (by show 0 < (List.replicate n _).length; rw [List.length_replicate]; omega)
      obtain ⟨ev, q1, q2, A9, c9, b9, o9, rfl, _⟩ := h4 k ⟨[], 0⟩ (by show (List.replicate n _)[k]? = _; rw [List.getElem?_replicate, if_pos hz])
      simp only [List.length_nil] at q1 q2
      have x3 : wr.cell? ⟨gs, 3, none⟩ = some (.slice (some ⟨b6, o6, none⟩) n cap) := (K4.out.since HB.out).cell 3
      have bk : (k : Int) < (n : Int) := by omega
      have bk0 : (0 : Int) ≤ (k : Int) := by omega
      clear h3 h4 e8
      go_wp2_with fail
      go_roundg (n - (k + 1))
      case measure => have := HK.out; omega
      case rel => exact ⟨k + 1, ⟨rfl, by omega, HB.out⟩, by go_num⟩
    · have bk : ¬ (k : Int) < (n : Int) := by omega
      have HW := hidE (HY4.out.since HB.out)
      have B5 := hidE (bel_trans B4.out HB.out)
      have K5 := hidE (K4.out.since HB.out)
      obtain ⟨bv5, rv5, hv5, _, hr5⟩ := id HW.out.at
      unfold elv elF at hv5
      simp at hv5
      obtain ⟨e5b, e5⟩ := hv5
      subst e5
      clear e5b
      obtain ⟨A6, c6, b6, o6, e6, _, h4⟩ := hr5.read
      simp only [Value.slice.injEq] at e6
      obtain ⟨e7, e8, e9⟩ := e6
      subst e7 e9
      clear e8
      obtain ⟨rfl, A0, cap0, b0, o0, d0, _⟩ := h4 0 (by have := NB.out; show 0 < R; omega)
      rw [Nat.add_zero] at d0
      have d0 : wr.cell? ⟨b6, o6, none⟩ = some (.slice A0 c cap0) := d0
      have r0 : (0 : Int) < (R : Int) := by have := NB.out; omega
      have qc : ((c : Int) == (c : Int)) = true := by simp
      have LC2 := hidE (LC.out wr _ HW.out.at)
      have x0 : wr.cell? ⟨gs, 0, none⟩ = some (.int .u64 S) := K5.out.cell 0
      have x1 : wr.cell? ⟨gs, 1, none⟩ = some (.int .i64 (room : Int)) := K5.out.cell 1
      have x2 : wr.cell? ⟨gs, 2, none⟩ = some (.int .i64 votes) := K5.out.cell 2
      have x3 : wr.cell? ⟨gs, 3, none⟩ = some (.slice A n cap) := K5.out.cell 3
      have x4 : wr.cell? ⟨gs, 4, none⟩ = some (.int .u64 (rowF S 1)) := K5.out.cell 4
      have x5 : wr.cell? ⟨gs, 5, none⟩ = some (.int .i64 255) := K5.out.cell 5
      have x6 : wr.cell? ⟨gs, 6, none⟩ = some (.slice (some ⟨b6, o6, none⟩) R lcap) := K5.out.cell 6
      clear h4
      go_wp2_with fail
      refine LC2.out.mono ?_
      rintro e u5 ⟨lv, rfl, hl, b5⟩
      obtain ⟨AL, cl, bl, ol, rfl, _⟩ := hl.its
      simp only [List.length_nil]
      have B6 := hidE (bel_trans B5.out b5)
      clear hl b5 x0 x1 x2 x3 x4 x5 x6 d0
      go_wp2_with fail
      refine (AW.out _).mono ?_
      rintro e u6 ⟨rfl, b6⟩
      go_wp2_with fail
      go_ret
      exact ⟨rfl, bel_trans B6.out b6⟩
end Go.Proofs.Ytihealembikkiaa
