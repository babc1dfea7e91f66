
/-
  What any sketch is with a key more, and what it tells: the walk of ElasticTurns (layer 15).
-/
import Derived.Test.YtihealembikkiaaElM8
import Derived.Test.YtihealembikkiaaElM6
import Derived.Test.YtihealembikkiaaElM7
import Derived.Test.YtihealembikkiaaElAwake
namespace Go.Proofs.Ytihealembikkiaa
open Go.RowKit Fm Bl Lt El Hv L2 L10 L14 Go.Deep Go.Shelf
set_option linter.unusedVariables false
set_option maxRecDepth 20000
set_option linter.unusedSimpArgs false

/-- The laws' ref of a sketch whose value is known. -/
theorem ref_is {w : World} {F : Elk} {A LA : Option Addr} {n cap lcap : Nat} (h : ElAt w (.agg #[.int .u64 F.S, .int .i64 F.room, .int .i64 F.votes, .slice A n cap, .int .u64 F.LS, .int .i64 F.LM, .slice LA F.R lcap]) F) (hn : n = F.bs.length) (hb : F.bs.length * 32 ≤ 140737488355328) (hE : ∀ (i : Nat) (b : Bkt), F.bs[i]? = some b → b.es.length * 32 ≤ 140737488355328) :
    Calls Try.prog 8 #[.agg #[.int .u64 F.S, .int .i64 F.room, .int .i64 F.votes, .slice A n cap, .int .u64 F.LS, .int .i64 F.LM, .slice LA F.R lcap]] w fun e w' => ∃ B9 c9, e = .returned (.agg #[.int .u64 F.S, .int .i64 F.room, .int .i64 F.votes, .slice B9 n c9, .int .u64 F.LS, .int .i64 F.LM, .slice LA F.R lcap]) ∧ Held (fun q => w.heap.size ≤ q) (fun u => BktsE u (.slice B9 n c9) F.bs) w' ∧ Below w.heap.size w w' :=
  (eref_any w _ F h hb hE).mono fun e w' q => by
    obtain ⟨bv, bv', rv, hv, rfl, hk, bb⟩ := q
    unfold elv at hv
    simp at hv
    obtain ⟨B9, c9, _, _, e9, _⟩ := hk.at
    subst e9
    rw [← hn] at hk ⊢
    refine ⟨B9, c9, ?_, hk, bb⟩
    unfold elv
    rw [← hv.2]
set_option maxHeartbeats 6400000 in
theorem turns_wide (C : CtrE) (w : World) (x : Value) (F : Elk) (s : ByteArray) (most : Int) (h : ElIn w x F) (hs : s.size ≤ 9223372036854775807) (im : I most) (ns : ¬ SmallE F) : Calls Try.prog 3 #[x, .string s, .int .i64 most] w fun e w' => e = .returned (.bool true) ∧ Below w.heap.size w w' := by
  obtain ⟨hel, uS, hR, hb1, hb2⟩ := h
  have AW := hidE (eawake_any C)
  have EX0 := hidE hel
  obtain ⟨A, n, cap, LA, lcap, hn, rfl, _, hr⟩ := el_parts hel
  have HN := hidE hn
  have EX : Hid (∀ u, Below w.heap.size w u → ElAt u (.agg #[.int .u64 F.S, .int .i64 F.room, .int .i64 F.votes, .slice A n cap, .int .u64 F.LS, .int .i64 F.LM, .slice LA F.R lcap]) F) := hidE fun u q => hel.keep (keep_of_below q)
  have RF := hidE fun u (q : Below w.heap.size w u) => ref_is (EX.out u q) HN.out hb1 fun i b hb => (hb2 i b hb).1
  have RI := hidE fun u (q : Below w.heap.size w u) => hr.keep (keep_of_below q)
  have SMC : Hid (∀ u y, ElAt u y F → Calls Try.prog 9 #[y] u (TellsB u (SmallE F))) := hidE fun u y q => esmall_any u y F q (by omega) hR fun i b hb => ⟨by have := (hb2 i b hb).1; omega, (hb2 i b hb).2⟩
  have BX : Hid (Below w.heap.size w (w.alloc (.cells #[.int .u64 F.S, .int .i64 F.room, .int .i64 F.votes, .slice A n cap, .int .u64 F.LS, .int .i64 F.LM, .slice LA F.R lcap] 28))) := bel_alloc _ _
  have KX : Hid (Blk (w.alloc (.cells #[.int .u64 F.S, .int .i64 F.room, .int .i64 F.votes, .slice A n cap, .int .u64 F.LS, .int .i64 F.LM, .slice LA F.R lcap] 28)) w.heap.size 28 #[.int .u64 F.S, .int .i64 F.room, .int .i64 F.votes, .slice A n cap, .int .u64 F.LS, .int .i64 F.LM, .slice LA F.R lcap]) := Blk.new _ _ _
  clear hel hr hn hb1 hb2
  go_enter Try.func3, Try.ntmps3
  go_wp2_with fail
  generalize w.alloc (.cells #[.int .u64 F.S, .int .i64 F.room, .int .i64 F.votes, .slice A n cap, .int .u64 F.LS, .int .i64 F.LM, .slice LA F.R lcap] 28) = X at BX KX ⊢
  refine (RF.out _ BX.out).mono ?_
  rintro e u1 ⟨B9, c9, rfl, hk, b1⟩
  have B1 := hidE (bel_trans BX.out b1)
  have K1 := hidE (KX.out.since b1)
  have BK := hidE hk
  have BA : Hid (Below u1.heap.size u1 (u1.alloc (.cells #[.int .u64 F.S, .int .i64 F.room, .int .i64 F.votes, .slice B9 n c9, .int .u64 F.LS, .int .i64 F.LM, .slice LA F.R lcap] 32))) := bel_alloc _ _
  have KA : Hid (Blk (u1.alloc (.cells #[.int .u64 F.S, .int .i64 F.room, .int .i64 F.votes, .slice B9 n c9, .int .u64 F.LS, .int .i64 F.LM, .slice LA F.R lcap] 32)) u1.heap.size 32 #[.int .u64 F.S, .int .i64 F.room, .int .i64 F.votes, .slice B9 n c9, .int .u64 F.LS, .int .i64 F.LM, .slice LA F.R lcap]) := Blk.new _ _ _
  clear b1 hk BX KX
  go_wp2_with fail
  have B2 := hidE (bel_trans B1.out BA.out)
  have K2 := hidE (K1.out.since BA.out)
  have BK2 := hidE (BK.out.since BA.out)
  clear BA B1 K1 BK
  generalize u1.alloc (.cells #[.int .u64 F.S, .int .i64 F.room, .int .i64 F.votes, .slice B9 n c9, .int .u64 F.LS, .int .i64 F.LM, .slice LA F.R lcap] 32) = Y at KA B2 K2 BK2 ⊢
  generalize u1.heap.size = g7 at KA ⊢
  have ED : Hid (∀ u, Below Y.heap.size Y u → ElAt u (.agg #[.int .u64 F.S, .int .i64 F.room, .int .i64 F.votes, .slice B9 n c9, .int .u64 F.LS, .int .i64 F.LM, .slice LA F.R lcap]) F) := hidE fun u q => ⟨_, _, rfl, by have e := (BK2.out.since q).at; exact e, RI.out u (bel_trans B2.out q)⟩
  refine (SMC.out Y _ (ED.out Y (Below.refl _ _))).mono ?_
  rintro e u2 ⟨B, rfl, hB, b2⟩
  have B3 := hidE (bel_trans B2.out b2)
  have T2 := hidE b2
  have K3 := hidE (K2.out.since b2)
  have K7 := hidE (KA.out.since b2)
  clear b2 B2 K2 KA RF SMC BK2
  obtain rfl : B = false := by cases B with | false => rfl | true => exact absurd (hB.1 rfl) ns
  clear hB
  go_wp2_with fail
  refine (AW.out _).mono ?_
  rintro e u9 ⟨rfl, b9⟩
  go_wp2_with fail
  go_ret
  exact ⟨rfl, bel_trans B3.out b9⟩
set_option maxHeartbeats 6400000 in
theorem turns_long (C : CtrE) (w : World) (x : Value) (F : Elk) (s : ByteArray) (most : Int) (h : ElIn w x F) (hs : s.size ≤ 9223372036854775807) (im : I most) (sm : SmallE F) (ls : (s.size : Int) > 100) : Calls Try.prog 3 #[x, .string s, .int .i64 most] w fun e w' => e = .returned (.bool true) ∧ Below w.heap.size w w' := by
  obtain ⟨hel, uS, hR, hb1, hb2⟩ := h
  have AW := hidE (eawake_any C)
  have EX0 := hidE hel
  obtain ⟨A, n, cap, LA, lcap, hn, rfl, _, hr⟩ := el_parts hel
  have HN := hidE hn
  have EX : Hid (∀ u, Below w.heap.size w u → ElAt u (.agg #[.int .u64 F.S, .int .i64 F.room, .int .i64 F.votes, .slice A n cap, .int .u64 F.LS, .int .i64 F.LM, .slice LA F.R lcap]) F) := hidE fun u q => hel.keep (keep_of_below q)
  have RF := hidE fun u (q : Below w.heap.size w u) => ref_is (EX.out u q) HN.out hb1 fun i b hb => (hb2 i b hb).1
  have RI := hidE fun u (q : Below w.heap.size w u) => hr.keep (keep_of_below q)
  have SMC : Hid (∀ u y, ElAt u y F → Calls Try.prog 9 #[y] u (TellsB u (SmallE F))) := hidE fun u y q => esmall_any u y F q (by omega) hR fun i b hb => ⟨by have := (hb2 i b hb).1; omega, (hb2 i b hb).2⟩
  have BX : Hid (Below w.heap.size w (w.alloc (.cells #[.int .u64 F.S, .int .i64 F.room, .int .i64 F.votes, .slice A n cap, .int .u64 F.LS, .int .i64 F.LM, .slice LA F.R lcap] 28))) := bel_alloc _ _
  have KX : Hid (Blk (w.alloc (.cells #[.int .u64 F.S, .int .i64 F.room, .int .i64 F.votes, .slice A n cap, .int .u64 F.LS, .int .i64 F.LM, .slice LA F.R lcap] 28)) w.heap.size 28 #[.int .u64 F.S, .int .i64 F.room, .int .i64 F.votes, .slice A n cap, .int .u64 F.LS, .int .i64 F.LM, .slice LA F.R lcap]) := Blk.new _ _ _
  clear hel hr hn hb1 hb2
  go_enter Try.func3, Try.ntmps3
  go_wp2_with fail
  generalize w.alloc (.cells #[.int .u64 F.S, .int .i64 F.room, .int .i64 F.votes, .slice A n cap, .int .u64 F.LS, .int .i64 F.LM, .slice LA F.R lcap] 28) = X at BX KX ⊢
  refine (RF.out _ BX.out).mono ?_
  rintro e u1 ⟨B9, c9, rfl, hk, b1⟩
  have B1 := hidE (bel_trans BX.out b1)
  have K1 := hidE (KX.out.since b1)
  have BK := hidE hk
  have BA : Hid (Below u1.heap.size u1 (u1.alloc (.cells #[.int .u64 F.S, .int .i64 F.room, .int .i64 F.votes, .slice B9 n c9, .int .u64 F.LS, .int .i64 F.LM, .slice LA F.R lcap] 32))) := bel_alloc _ _
  have KA : Hid (Blk (u1.alloc (.cells #[.int .u64 F.S, .int .i64 F.room, .int .i64 F.votes, .slice B9 n c9, .int .u64 F.LS, .int .i64 F.LM, .slice LA F.R lcap] 32)) u1.heap.size 32 #[.int .u64 F.S, .int .i64 F.room, .int .i64 F.votes, .slice B9 n c9, .int .u64 F.LS, .int .i64 F.LM, .slice LA F.R lcap]) := Blk.new _ _ _
  clear b1 hk BX KX
  go_wp2_with fail
  have B2 := hidE (bel_trans B1.out BA.out)
  have K2 := hidE (K1.out.since BA.out)
  have BK2 := hidE (BK.out.since BA.out)
  clear BA B1 K1 BK
  generalize u1.alloc (.cells #[.int .u64 F.S, .int .i64 F.room, .int .i64 F.votes, .slice B9 n c9, .int .u64 F.LS, .int .i64 F.LM, .slice LA F.R lcap] 32) = Y at KA B2 K2 BK2 ⊢
  generalize u1.heap.size = g7 at KA ⊢
  have ED : Hid (∀ u, Below Y.heap.size Y u → ElAt u (.agg #[.int .u64 F.S, .int .i64 F.room, .int .i64 F.votes, .slice B9 n c9, .int .u64 F.LS, .int .i64 F.LM, .slice LA F.R lcap]) F) := hidE fun u q => ⟨_, _, rfl, by have e := (BK2.out.since q).at; exact e, RI.out u (bel_trans B2.out q)⟩
  refine (SMC.out Y _ (ED.out Y (Below.refl _ _))).mono ?_
  rintro e u2 ⟨B, rfl, hB, b2⟩
  have B3 := hidE (bel_trans B2.out b2)
  have T2 := hidE b2
  have K3 := hidE (K2.out.since b2)
  have K7 := hidE (KA.out.since b2)
  clear b2 B2 K2 KA RF SMC BK2
  obtain rfl : B = true := hB.2 sm
  clear hB
  go_wp2_with fail
  refine (AW.out _).mono ?_
  rintro e u9 ⟨rfl, b9⟩
  go_wp2_with fail
  go_ret
  exact ⟨rfl, bel_trans B3.out b9⟩
set_option maxHeartbeats 6400000 in
theorem turns_bad (C : CtrE) (w : World) (x : Value) (F : Elk) (s : ByteArray) (most : Int) (h : ElIn w x F) (hs : s.size ≤ 9223372036854775807) (im : I most) (sm : SmallE F) (ls : ¬ (s.size : Int) > 100) (nr : ¬ RightE F) : Calls Try.prog 3 #[x, .string s, .int .i64 most] w fun e w' => e = .returned (.bool true) ∧ Below w.heap.size w w' := by
  obtain ⟨hel, uS, hR, hb1, hb2⟩ := h
  have AW := hidE (eawake_any C)
  have EX0 := hidE hel
  obtain ⟨A, n, cap, LA, lcap, hn, rfl, _, hr⟩ := el_parts hel
  have HN := hidE hn
  have EX : Hid (∀ u, Below w.heap.size w u → ElAt u (.agg #[.int .u64 F.S, .int .i64 F.room, .int .i64 F.votes, .slice A n cap, .int .u64 F.LS, .int .i64 F.LM, .slice LA F.R lcap]) F) := hidE fun u q => hel.keep (keep_of_below q)
  have RF := hidE fun u (q : Below w.heap.size w u) => ref_is (EX.out u q) HN.out hb1 fun i b hb => (hb2 i b hb).1
  have RI := hidE fun u (q : Below w.heap.size w u) => hr.keep (keep_of_below q)
  have SMC : Hid (∀ u y, ElAt u y F → Calls Try.prog 9 #[y] u (TellsB u (SmallE F))) := hidE fun u y q => esmall_any u y F q (by omega) hR fun i b hb => ⟨by have := (hb2 i b hb).1; omega, (hb2 i b hb).2⟩
  have BX : Hid (Below w.heap.size w (w.alloc (.cells #[.int .u64 F.S, .int .i64 F.room, .int .i64 F.votes, .slice A n cap, .int .u64 F.LS, .int .i64 F.LM, .slice LA F.R lcap] 28))) := bel_alloc _ _
  have KX : Hid (Blk (w.alloc (.cells #[.int .u64 F.S, .int .i64 F.room, .int .i64 F.votes, .slice A n cap, .int .u64 F.LS, .int .i64 F.LM, .slice LA F.R lcap] 28)) w.heap.size 28 #[.int .u64 F.S, .int .i64 F.room, .int .i64 F.votes, .slice A n cap, .int .u64 F.LS, .int .i64 F.LM, .slice LA F.R lcap]) := Blk.new _ _ _
  clear hel hr hn hb1 hb2
  go_enter Try.func3, Try.ntmps3
  go_wp2_with fail
  generalize w.alloc (.cells #[.int .u64 F.S, .int .i64 F.room, .int .i64 F.votes, .slice A n cap, .int .u64 F.LS, .int .i64 F.LM, .slice LA F.R lcap] 28) = X at BX KX ⊢
  refine (RF.out _ BX.out).mono ?_
  rintro e u1 ⟨B9, c9, rfl, hk, b1⟩
  have B1 := hidE (bel_trans BX.out b1)
  have K1 := hidE (KX.out.since b1)
  have BK := hidE hk
  have BA : Hid (Below u1.heap.size u1 (u1.alloc (.cells #[.int .u64 F.S, .int .i64 F.room, .int .i64 F.votes, .slice B9 n c9, .int .u64 F.LS, .int .i64 F.LM, .slice LA F.R lcap] 32))) := bel_alloc _ _
  have KA : Hid (Blk (u1.alloc (.cells #[.int .u64 F.S, .int .i64 F.room, .int .i64 F.votes, .slice B9 n c9, .int .u64 F.LS, .int .i64 F.LM, .slice LA F.R lcap] 32)) u1.heap.size 32 #[.int .u64 F.S, .int .i64 F.room, .int .i64 F.votes, .slice B9 n c9, .int .u64 F.LS, .int .i64 F.LM, .slice LA F.R lcap]) := Blk.new _ _ _
  clear b1 hk BX KX
  go_wp2_with fail
  have B2 := hidE (bel_trans B1.out BA.out)
  have K2 := hidE (K1.out.since BA.out)
  have BK2 := hidE (BK.out.since BA.out)
  clear BA B1 K1 BK
  generalize u1.alloc (.cells #[.int .u64 F.S, .int .i64 F.room, .int .i64 F.votes, .slice B9 n c9, .int .u64 F.LS, .int .i64 F.LM, .slice LA F.R lcap] 32) = Y at KA B2 K2 BK2 ⊢
  generalize u1.heap.size = g7 at KA ⊢
  have ED : Hid (∀ u, Below Y.heap.size Y u → ElAt u (.agg #[.int .u64 F.S, .int .i64 F.room, .int .i64 F.votes, .slice B9 n c9, .int .u64 F.LS, .int .i64 F.LM, .slice LA F.R lcap]) F) := hidE fun u q => ⟨_, _, rfl, by have e := (BK2.out.since q).at; exact e, RI.out u (bel_trans B2.out q)⟩
  refine (SMC.out Y _ (ED.out Y (Below.refl _ _))).mono ?_
  rintro e u2 ⟨B, rfl, hB, b2⟩
  have B3 := hidE (bel_trans B2.out b2)
  have T2 := hidE b2
  have K3 := hidE (K2.out.since b2)
  have K7 := hidE (KA.out.since b2)
  clear b2 B2 K2 KA RF SMC BK2
  obtain rfl : B = true := hB.2 sm
  clear hB
  have T3 := T2
  have x0 : u2.cell? ⟨w.heap.size, 0, none⟩ = some (.int .u64 F.S) := K3.out.cell 0
  have x1 : u2.cell? ⟨w.heap.size, 1, none⟩ = some (.int .i64 F.room) := K3.out.cell 1
  have x2 : u2.cell? ⟨w.heap.size, 2, none⟩ = some (.int .i64 F.votes) := K3.out.cell 2
  have x3 : u2.cell? ⟨w.heap.size, 3, none⟩ = some (.slice A n cap) := K3.out.cell 3
  have x4 : u2.cell? ⟨w.heap.size, 4, none⟩ = some (.int .u64 F.LS) := K3.out.cell 4
  have x5 : u2.cell? ⟨w.heap.size, 5, none⟩ = some (.int .i64 F.LM) := K3.out.cell 5
  have x6 : u2.cell? ⟨w.heap.size, 6, none⟩ = some (.slice LA F.R lcap) := K3.out.cell 6
  have AC := hidE (C.add_bad u2 _ F s (EX.out u2 B3.out) uS sm (by omega) nr)
  go_wp2_with fail
  refine AC.out.mono ?_
  rintro e u3 ⟨rfl, b3⟩
  have B4 := hidE (bel_trans B3.out b3)
  have T4 := hidE (bel_trans T3.out b3)
  have K34 := hidE (K3.out.since b3)
  have K74 := hidE (K7.out.since b3)
  clear b3 AC x0 x1 x2 x3 x4 x5 x6
  unfold elz
  have BA : Hid (Below u3.heap.size u3 (u3.alloc (.cells #[.int .u64 0, .int .i64 0, .int .i64 0, .slice none 0 0, .int .u64 0, .int .i64 0, .slice none 0 0] 28))) := bel_alloc _ _
  have KA : Hid (Blk (u3.alloc (.cells #[.int .u64 0, .int .i64 0, .int .i64 0, .slice none 0 0, .int .u64 0, .int .i64 0, .slice none 0 0] 28)) u3.heap.size 28 #[.int .u64 0, .int .i64 0, .int .i64 0, .slice none 0 0, .int .u64 0, .int .i64 0, .slice none 0 0]) := Blk.new _ _ _
  have B5 := hidE (bel_trans B4.out BA.out)
  have T5 := hidE (bel_trans T4.out BA.out)
  have K35 := hidE (K34.out.since BA.out)
  have K75 := hidE (K74.out.since BA.out)
  have x0 : (u3.alloc (.cells #[.int .u64 0, .int .i64 0, .int .i64 0, .slice none 0 0, .int .u64 0, .int .i64 0, .slice none 0 0] 28)).cell? ⟨w.heap.size, 0, none⟩ = some (.int .u64 F.S) := K35.out.cell 0
  have x1 : (u3.alloc (.cells #[.int .u64 0, .int .i64 0, .int .i64 0, .slice none 0 0, .int .u64 0, .int .i64 0, .slice none 0 0] 28)).cell? ⟨w.heap.size, 1, none⟩ = some (.int .i64 F.room) := K35.out.cell 1
  have x2 : (u3.alloc (.cells #[.int .u64 0, .int .i64 0, .int .i64 0, .slice none 0 0, .int .u64 0, .int .i64 0, .slice none 0 0] 28)).cell? ⟨w.heap.size, 2, none⟩ = some (.int .i64 F.votes) := K35.out.cell 2
  have x3 : (u3.alloc (.cells #[.int .u64 0, .int .i64 0, .int .i64 0, .slice none 0 0, .int .u64 0, .int .i64 0, .slice none 0 0] 28)).cell? ⟨w.heap.size, 3, none⟩ = some (.slice A n cap) := K35.out.cell 3
  have x4 : (u3.alloc (.cells #[.int .u64 0, .int .i64 0, .int .i64 0, .slice none 0 0, .int .u64 0, .int .i64 0, .slice none 0 0] 28)).cell? ⟨w.heap.size, 4, none⟩ = some (.int .u64 F.LS) := K35.out.cell 4
  have x5 : (u3.alloc (.cells #[.int .u64 0, .int .i64 0, .int .i64 0, .slice none 0 0, .int .u64 0, .int .i64 0, .slice none 0 0] 28)).cell? ⟨w.heap.size, 5, none⟩ = some (.int .i64 F.LM) := K35.out.cell 5
  have x6 : (u3.alloc (.cells #[.int .u64 0, .int .i64 0, .int .i64 0, .slice none 0 0, .int .u64 0, .int .i64 0, .slice none 0 0] 28)).cell? ⟨w.heap.size, 6, none⟩ = some (.slice LA F.R lcap) := K35.out.cell 6
  go_wp2_with fail
  generalize u3.alloc (.cells #[.int .u64 0, .int .i64 0, .int .i64 0, .slice none 0 0, .int .u64 0, .int .i64 0, .slice none 0 0] 28) = Y3 at KA B5 T5 K35 K75 x0 x1 x2 x3 x4 x5 x6 ⊢
  generalize u3.heap.size = g8 at KA ⊢
  have GC := hidE (C.get_bad Y3 _ F s (EX.out Y3 B5.out) uS sm (by omega) nr)
  refine GC.out.mono ?_
  rintro e u4 ⟨rfl, b4⟩
  clear x0 x1 x2 x3 x4 x5 x6 GC
  have B6 := hidE (bel_trans B5.out b4)
  have T6 := hidE (bel_trans T5.out b4)
  have K36 := hidE (K35.out.since b4)
  have K76 := hidE (K75.out.since b4)
  have KA6 := hidE (KA.out.since b4)
  clear b4
  have x0 : u4.cell? ⟨w.heap.size, 0, none⟩ = some (.int .u64 F.S) := K36.out.cell 0
  have x1 : u4.cell? ⟨w.heap.size, 1, none⟩ = some (.int .i64 F.room) := K36.out.cell 1
  have x2 : u4.cell? ⟨w.heap.size, 2, none⟩ = some (.int .i64 F.votes) := K36.out.cell 2
  have x3 : u4.cell? ⟨w.heap.size, 3, none⟩ = some (.slice A n cap) := K36.out.cell 3
  have x4 : u4.cell? ⟨w.heap.size, 4, none⟩ = some (.int .u64 F.LS) := K36.out.cell 4
  have x5 : u4.cell? ⟨w.heap.size, 5, none⟩ = some (.int .i64 F.LM) := K36.out.cell 5
  have x6 : u4.cell? ⟨w.heap.size, 6, none⟩ = some (.slice LA F.R lcap) := K36.out.cell 6
  have LC := hidE (C.list_bad u4 _ F most (EX.out u4 B6.out) uS sm im nr)
  go_wp2_with fail
  refine LC.out.mono ?_
  rintro e u5 ⟨lv, rfl, hl, b5⟩
  obtain ⟨AL, cl, bl, ol, rfl, _⟩ := hl.its
  simp only [List.length_nil]
  clear x0 x1 x2 x3 x4 x5 x6 LC hl
  have B7 := hidE (bel_trans B6.out b5)
  have T7 := hidE (bel_trans T6.out b5)
  have K37 := hidE (K36.out.since b5)
  have K77 := hidE (K76.out.since b5)
  have KA7 := hidE (KA6.out.since b5)
  clear b5
  have x0 : u5.cell? ⟨g7, 0, none⟩ = some (.int .u64 F.S) := K77.out.cell 0
  have x1 : u5.cell? ⟨g7, 1, none⟩ = some (.int .i64 F.room) := K77.out.cell 1
  have x2 : u5.cell? ⟨g7, 2, none⟩ = some (.int .i64 F.votes) := K77.out.cell 2
  have x3 : u5.cell? ⟨g7, 3, none⟩ = some (.slice B9 n c9) := K77.out.cell 3
  have x4 : u5.cell? ⟨g7, 4, none⟩ = some (.int .u64 F.LS) := K77.out.cell 4
  have x5 : u5.cell? ⟨g7, 5, none⟩ = some (.int .i64 F.LM) := K77.out.cell 5
  have x6 : u5.cell? ⟨g7, 6, none⟩ = some (.slice LA F.R lcap) := K77.out.cell 6
  have RC := hidE (eright_any u5 _ F (ED.out u5 T7.out) uS sm)
  go_wp2_with fail
  refine RC.out.mono ?_
  rintro e u6 ⟨B, rfl, hB, b6⟩
  obtain rfl : B = false := by cases B with | false => rfl | true => exact absurd (hB.1 rfl) nr
  clear hB x0 x1 x2 x3 x4 x5 x6 RC
  have B8 := hidE (bel_trans B7.out b6)
  have T8 := hidE (bel_trans T7.out b6)
  have K38 := hidE (K37.out.since b6)
  have K78 := hidE (K77.out.since b6)
  have KA8 := hidE (KA7.out.since b6)
  clear b6
  have x0 : u6.cell? ⟨w.heap.size, 0, none⟩ = some (.int .u64 F.S) := K38.out.cell 0
  have x1 : u6.cell? ⟨w.heap.size, 1, none⟩ = some (.int .i64 F.room) := K38.out.cell 1
  have x2 : u6.cell? ⟨w.heap.size, 2, none⟩ = some (.int .i64 F.votes) := K38.out.cell 2
  have x3 : u6.cell? ⟨w.heap.size, 3, none⟩ = some (.slice A n cap) := K38.out.cell 3
  have x4 : u6.cell? ⟨w.heap.size, 4, none⟩ = some (.int .u64 F.LS) := K38.out.cell 4
  have x5 : u6.cell? ⟨w.heap.size, 5, none⟩ = some (.int .i64 F.LM) := K38.out.cell 5
  have x6 : u6.cell? ⟨w.heap.size, 6, none⟩ = some (.slice LA F.R lcap) := K38.out.cell 6
  have CC := hidE (C.right u6 _ F (EX.out u6 B8.out) uS sm)
  go_wp2_with fail
  refine CC.out.mono ?_
  rintro e u7 ⟨B, rfl, hB, b7⟩
  obtain rfl : B = false := by cases B with | false => rfl | true => exact absurd (hB.1 rfl) nr
  have B9w := hidE (bel_trans B8.out b7)
  have z3 : u7.cell? ⟨g8, 3, none⟩ = some (.slice none 0 0) := (KA8.out.since b7).cell 3
  clear hB b7 x0 x1 x2 x3 x4 x5 x6 CC
  go_wp2_with fail
  refine (AW.out _).mono ?_
  rintro e u9 ⟨rfl, b9⟩
  go_wp2_with fail
  go_ret
  exact ⟨rfl, bel_trans B9w.out b9⟩
set_option maxHeartbeats 6400000 in
theorem turns_none (C : CtrE) (w : World) (x : Value) (F : Elk) (s : ByteArray) (most : Int) (h : ElIn w x F) (hs : s.size ≤ 9223372036854775807) (im : I most) (ls : ¬ (s.size : Int) > 100) (sm : SmallE F) (l : List Itm) (ll : Hid (l.length ≤ 100000)) (lo hi : Int) (ex fu : Bool) (GC : Hid (GetS w 12 x s lo hi ex fu)) (LC : Hid (ListS w 13 x most l)) (RC : Hid (RightS w 15 x)) (RRC : Hid (∀ u y, ElAt u y F → Calls Try.prog 14 #[y] u fun e w' => e = .returned (.bool true) ∧ Below u.heap.size u w')) (RGC : Hid (∀ u y, ElAt u y F → GetS u 16 y s lo hi ex fu)) (RLC : Hid (∀ u y, ElAt u y F → ListS u 18 y most l)) (AC : Hid (AddN w x s)) (RAC : Hid (∀ u y, ElAt u y F → RAddN u y s)) : Calls Try.prog 3 #[x, .string s, .int .i64 most] w fun e w' => e = .returned (.bool true) ∧ Below w.heap.size w w' := by
  obtain ⟨hel, uS, hR, hb1, hb2⟩ := h
  have AW := hidE (eawake_any C)
  have EX0 := hidE hel
  obtain ⟨A, n, cap, LA, lcap, hn, rfl, _, hr⟩ := el_parts hel
  have HN := hidE hn
  have EX : Hid (∀ u, Below w.heap.size w u → ElAt u (.agg #[.int .u64 F.S, .int .i64 F.room, .int .i64 F.votes, .slice A n cap, .int .u64 F.LS, .int .i64 F.LM, .slice LA F.R lcap]) F) := hidE fun u q => hel.keep (keep_of_below q)
  have RF := hidE fun u (q : Below w.heap.size w u) => ref_is (EX.out u q) HN.out hb1 fun i b hb => (hb2 i b hb).1
  have RI := hidE fun u (q : Below w.heap.size w u) => hr.keep (keep_of_below q)
  have SMC : Hid (∀ u y, ElAt u y F → Calls Try.prog 9 #[y] u (TellsB u (SmallE F))) := hidE fun u y q => esmall_any u y F q (by omega) hR fun i b hb => ⟨by have := (hb2 i b hb).1; omega, (hb2 i b hb).2⟩
  have BX : Hid (Below w.heap.size w (w.alloc (.cells #[.int .u64 F.S, .int .i64 F.room, .int .i64 F.votes, .slice A n cap, .int .u64 F.LS, .int .i64 F.LM, .slice LA F.R lcap] 28))) := bel_alloc _ _
  have KX : Hid (Blk (w.alloc (.cells #[.int .u64 F.S, .int .i64 F.room, .int .i64 F.votes, .slice A n cap, .int .u64 F.LS, .int .i64 F.LM, .slice LA F.R lcap] 28)) w.heap.size 28 #[.int .u64 F.S, .int .i64 F.room, .int .i64 F.votes, .slice A n cap, .int .u64 F.LS, .int .i64 F.LM, .slice LA F.R lcap]) := Blk.new _ _ _
  clear hel hr hn hb1 hb2
  go_enter Try.func3, Try.ntmps3
  go_wp2_with fail
  generalize w.alloc (.cells #[.int .u64 F.S, .int .i64 F.room, .int .i64 F.votes, .slice A n cap, .int .u64 F.LS, .int .i64 F.LM, .slice LA F.R lcap] 28) = X at BX KX ⊢
  refine (RF.out _ BX.out).mono ?_
  rintro e u1 ⟨B9, c9, rfl, hk, b1⟩
  have B1 := hidE (bel_trans BX.out b1)
  have K1 := hidE (KX.out.since b1)
  have BK := hidE hk
  have BA : Hid (Below u1.heap.size u1 (u1.alloc (.cells #[.int .u64 F.S, .int .i64 F.room, .int .i64 F.votes, .slice B9 n c9, .int .u64 F.LS, .int .i64 F.LM, .slice LA F.R lcap] 32))) := bel_alloc _ _
  have KA : Hid (Blk (u1.alloc (.cells #[.int .u64 F.S, .int .i64 F.room, .int .i64 F.votes, .slice B9 n c9, .int .u64 F.LS, .int .i64 F.LM, .slice LA F.R lcap] 32)) u1.heap.size 32 #[.int .u64 F.S, .int .i64 F.room, .int .i64 F.votes, .slice B9 n c9, .int .u64 F.LS, .int .i64 F.LM, .slice LA F.R lcap]) := Blk.new _ _ _
  clear b1 hk BX KX
  go_wp2_with fail
  have B2 := hidE (bel_trans B1.out BA.out)
  have K2 := hidE (K1.out.since BA.out)
  have BK2 := hidE (BK.out.since BA.out)
  clear BA B1 K1 BK
  generalize u1.alloc (.cells #[.int .u64 F.S, .int .i64 F.room, .int .i64 F.votes, .slice B9 n c9, .int .u64 F.LS, .int .i64 F.LM, .slice LA F.R lcap] 32) = Y at KA B2 K2 BK2 ⊢
  generalize u1.heap.size = g7 at KA ⊢
  have ED : Hid (∀ u, Below Y.heap.size Y u → ElAt u (.agg #[.int .u64 F.S, .int .i64 F.room, .int .i64 F.votes, .slice B9 n c9, .int .u64 F.LS, .int .i64 F.LM, .slice LA F.R lcap]) F) := hidE fun u q => ⟨_, _, rfl, by have e := (BK2.out.since q).at; exact e, RI.out u (bel_trans B2.out q)⟩
  refine (SMC.out Y _ (ED.out Y (Below.refl _ _))).mono ?_
  rintro e u2 ⟨B, rfl, hB, b2⟩
  have B3 := hidE (bel_trans B2.out b2)
  have T2 := hidE b2
  have K3 := hidE (K2.out.since b2)
  have K7 := hidE (KA.out.since b2)
  clear b2 B2 K2 KA RF SMC BK2
  obtain rfl : B = true := hB.2 sm
  clear hB
  have T3 := T2
  have W3 := B3
  clear B3
  have LS := hidE ls
  clear ls sm im hs T2
  have ls0 := LS.out
  have zx0 : u2.cell? ⟨w.heap.size, 0, none⟩ = some (.int .u64 F.S) := K3.out.cell 0
  have zx1 : u2.cell? ⟨w.heap.size, 1, none⟩ = some (.int .i64 F.room) := K3.out.cell 1
  have zx2 : u2.cell? ⟨w.heap.size, 2, none⟩ = some (.int .i64 F.votes) := K3.out.cell 2
  have zx3 : u2.cell? ⟨w.heap.size, 3, none⟩ = some (.slice A n cap) := K3.out.cell 3
  have zx4 : u2.cell? ⟨w.heap.size, 4, none⟩ = some (.int .u64 F.LS) := K3.out.cell 4
  have zx5 : u2.cell? ⟨w.heap.size, 5, none⟩ = some (.int .i64 F.LM) := K3.out.cell 5
  have zx6 : u2.cell? ⟨w.heap.size, 6, none⟩ = some (.slice LA F.R lcap) := K3.out.cell 6
  go_wp2_with fail
  clear ls0
  refine (AC.out u2 W3.out).mono ?_
  rintro e u3 ⟨rfl, b3⟩
  unfold elz
  clear zx0 zx1 zx2 zx3 zx4 zx5 zx6
  have W4 := hidE (bel_trans W3.out b3)
  have T4 := hidE (bel_trans T3.out b3)
  have Kx4 := hidE (K3.out.since b3)
  have Ky4 := hidE (K7.out.since b3)
  clear W3 T3 K3 K7
  clear b3 AC
  have BA : Hid (Below u3.heap.size u3 (u3.alloc (.cells #[.int .u64 0, .int .i64 0, .int .i64 0, .slice none 0 0, .int .u64 0, .int .i64 0, .slice none 0 0] 28))) := bel_alloc _ _
  have KA : Hid (Blk (u3.alloc (.cells #[.int .u64 0, .int .i64 0, .int .i64 0, .slice none 0 0, .int .u64 0, .int .i64 0, .slice none 0 0] 28)) u3.heap.size 28 #[.int .u64 0, .int .i64 0, .int .i64 0, .slice none 0 0, .int .u64 0, .int .i64 0, .slice none 0 0]) := Blk.new _ _ _
  have W5 := hidE (bel_trans W4.out BA.out)
  have T5 := hidE (bel_trans T4.out BA.out)
  have Kx5 := hidE (Kx4.out.since BA.out)
  have Ky5 := hidE (Ky4.out.since BA.out)
  clear W4 T4 Kx4 Ky4
  have zx0 : (u3.alloc (.cells #[.int .u64 0, .int .i64 0, .int .i64 0, .slice none 0 0, .int .u64 0, .int .i64 0, .slice none 0 0] 28)).cell? ⟨w.heap.size, 0, none⟩ = some (.int .u64 F.S) := Kx5.out.cell 0
  have zx1 : (u3.alloc (.cells #[.int .u64 0, .int .i64 0, .int .i64 0, .slice none 0 0, .int .u64 0, .int .i64 0, .slice none 0 0] 28)).cell? ⟨w.heap.size, 1, none⟩ = some (.int .i64 F.room) := Kx5.out.cell 1
  have zx2 : (u3.alloc (.cells #[.int .u64 0, .int .i64 0, .int .i64 0, .slice none 0 0, .int .u64 0, .int .i64 0, .slice none 0 0] 28)).cell? ⟨w.heap.size, 2, none⟩ = some (.int .i64 F.votes) := Kx5.out.cell 2
  have zx3 : (u3.alloc (.cells #[.int .u64 0, .int .i64 0, .int .i64 0, .slice none 0 0, .int .u64 0, .int .i64 0, .slice none 0 0] 28)).cell? ⟨w.heap.size, 3, none⟩ = some (.slice A n cap) := Kx5.out.cell 3
  have zx4 : (u3.alloc (.cells #[.int .u64 0, .int .i64 0, .int .i64 0, .slice none 0 0, .int .u64 0, .int .i64 0, .slice none 0 0] 28)).cell? ⟨w.heap.size, 4, none⟩ = some (.int .u64 F.LS) := Kx5.out.cell 4
  have zx5 : (u3.alloc (.cells #[.int .u64 0, .int .i64 0, .int .i64 0, .slice none 0 0, .int .u64 0, .int .i64 0, .slice none 0 0] 28)).cell? ⟨w.heap.size, 5, none⟩ = some (.int .i64 F.LM) := Kx5.out.cell 5
  have zx6 : (u3.alloc (.cells #[.int .u64 0, .int .i64 0, .int .i64 0, .slice none 0 0, .int .u64 0, .int .i64 0, .slice none 0 0] 28)).cell? ⟨w.heap.size, 6, none⟩ = some (.slice LA F.R lcap) := Kx5.out.cell 6
  go_wp2_with fail
  generalize (u3.alloc (.cells #[.int .u64 0, .int .i64 0, .int .i64 0, .slice none 0 0, .int .u64 0, .int .i64 0, .slice none 0 0] 28)) = Y3 at KA BA W5 T5 Kx5 Ky5 zx0 zx1 zx2 zx3 zx4 zx5 zx6 ⊢
  generalize u3.heap.size = g8 at KA ⊢
  clear BA
  have KAa := KA
  clear KA
  refine (GC.out Y3 W5.out).mono ?_
  rintro e u4 ⟨rfl, b4⟩
  clear zx0 zx1 zx2 zx3 zx4 zx5 zx6
  have W6 := hidE (bel_trans W5.out b4)
  have T6 := hidE (bel_trans T5.out b4)
  have Kx6 := hidE (Kx5.out.since b4)
  have Ky6 := hidE (Ky5.out.since b4)
  have Ka6 := hidE (KAa.out.since b4)
  clear W5 T5 Kx5 Ky5 KAa
  clear b4 GC
  have zx0 : u4.cell? ⟨w.heap.size, 0, none⟩ = some (.int .u64 F.S) := Kx6.out.cell 0
  have zx1 : u4.cell? ⟨w.heap.size, 1, none⟩ = some (.int .i64 F.room) := Kx6.out.cell 1
  have zx2 : u4.cell? ⟨w.heap.size, 2, none⟩ = some (.int .i64 F.votes) := Kx6.out.cell 2
  have zx3 : u4.cell? ⟨w.heap.size, 3, none⟩ = some (.slice A n cap) := Kx6.out.cell 3
  have zx4 : u4.cell? ⟨w.heap.size, 4, none⟩ = some (.int .u64 F.LS) := Kx6.out.cell 4
  have zx5 : u4.cell? ⟨w.heap.size, 5, none⟩ = some (.int .i64 F.LM) := Kx6.out.cell 5
  have zx6 : u4.cell? ⟨w.heap.size, 6, none⟩ = some (.slice LA F.R lcap) := Kx6.out.cell 6
  go_wp2_with fail
  refine (LC.out u4 W6.out).mono ?_
  rintro e u5 ⟨lv, rfl, hl, b5⟩
  clear zx0 zx1 zx2 zx3 zx4 zx5 zx6
  have W7 := hidE (bel_trans W6.out b5)
  have T7 := hidE (bel_trans T6.out b5)
  have Kx7 := hidE (Kx6.out.since b5)
  have Ky7 := hidE (Ky6.out.since b5)
  have Ka7 := hidE (Ka6.out.since b5)
  clear W6 T6 Kx6 Ky6 Ka6
  clear b5 LC
  have HL : Hid (∀ u, Below u5.heap.size u5 u → ItsL u lv l) := hidE hl
  clear hl
  have zy0 : u5.cell? ⟨g7, 0, none⟩ = some (.int .u64 F.S) := Ky7.out.cell 0
  have zy1 : u5.cell? ⟨g7, 1, none⟩ = some (.int .i64 F.room) := Ky7.out.cell 1
  have zy2 : u5.cell? ⟨g7, 2, none⟩ = some (.int .i64 F.votes) := Ky7.out.cell 2
  have zy3 : u5.cell? ⟨g7, 3, none⟩ = some (.slice B9 n c9) := Ky7.out.cell 3
  have zy4 : u5.cell? ⟨g7, 4, none⟩ = some (.int .u64 F.LS) := Ky7.out.cell 4
  have zy5 : u5.cell? ⟨g7, 5, none⟩ = some (.int .i64 F.LM) := Ky7.out.cell 5
  have zy6 : u5.cell? ⟨g7, 6, none⟩ = some (.slice LA F.R lcap) := Ky7.out.cell 6
  go_wp2_with fail
  refine (RRC.out u5 _ (ED.out u5 T7.out)).mono ?_
  rintro e u6 ⟨rfl, b6⟩
  clear zy0 zy1 zy2 zy3 zy4 zy5 zy6
  have W8 := hidE (bel_trans W7.out b6)
  have T8 := hidE (bel_trans T7.out b6)
  have Kx8 := hidE (Kx7.out.since b6)
  have Ky8 := hidE (Ky7.out.since b6)
  have Ka8 := hidE (Ka7.out.since b6)
  clear W7 T7 Kx7 Ky7 Ka7
  have b66 := hidE b6
  clear b6
  have HL6 : Hid (∀ u, Below u6.heap.size u6 u → ItsL u lv l) := hidE fun u q => HL.out u (bel_trans b66.out q)
  clear HL b66
  have zy0 : u6.cell? ⟨g7, 0, none⟩ = some (.int .u64 F.S) := Ky8.out.cell 0
  have zy1 : u6.cell? ⟨g7, 1, none⟩ = some (.int .i64 F.room) := Ky8.out.cell 1
  have zy2 : u6.cell? ⟨g7, 2, none⟩ = some (.int .i64 F.votes) := Ky8.out.cell 2
  have zy3 : u6.cell? ⟨g7, 3, none⟩ = some (.slice B9 n c9) := Ky8.out.cell 3
  have zy4 : u6.cell? ⟨g7, 4, none⟩ = some (.int .u64 F.LS) := Ky8.out.cell 4
  have zy5 : u6.cell? ⟨g7, 5, none⟩ = some (.int .i64 F.LM) := Ky8.out.cell 5
  have zy6 : u6.cell? ⟨g7, 6, none⟩ = some (.slice LA F.R lcap) := Ky8.out.cell 6
  go_wp2_with fail
  refine (RGC.out u6 _ (ED.out u6 T8.out) _ (Below.refl _ _)).mono ?_
  rintro e u7 ⟨rfl, b7⟩
  clear zy0 zy1 zy2 zy3 zy4 zy5 zy6
  have W9 := hidE (bel_trans W8.out b7)
  have T9 := hidE (bel_trans T8.out b7)
  have Kx9 := hidE (Kx8.out.since b7)
  have Ky9 := hidE (Ky8.out.since b7)
  have Ka9 := hidE (Ka8.out.since b7)
  clear W8 T8 Kx8 Ky8 Ka8
  have b77 := hidE b7
  clear b7
  have HL7 : Hid (∀ u, Below u7.heap.size u7 u → ItsL u lv l) := hidE fun u q => HL6.out u (bel_trans b77.out q)
  clear HL6 b77 RGC RRC
  have q1 : (lo != lo) = false := by simp
  have q2 : (hi != hi) = false := by simp
  have q3 : (ex != ex) = false := by simp
  have q4 : (fu != fu) = false := by simp
  have zy0 : u7.cell? ⟨g7, 0, none⟩ = some (.int .u64 F.S) := Ky9.out.cell 0
  have zy1 : u7.cell? ⟨g7, 1, none⟩ = some (.int .i64 F.room) := Ky9.out.cell 1
  have zy2 : u7.cell? ⟨g7, 2, none⟩ = some (.int .i64 F.votes) := Ky9.out.cell 2
  have zy3 : u7.cell? ⟨g7, 3, none⟩ = some (.slice B9 n c9) := Ky9.out.cell 3
  have zy4 : u7.cell? ⟨g7, 4, none⟩ = some (.int .u64 F.LS) := Ky9.out.cell 4
  have zy5 : u7.cell? ⟨g7, 5, none⟩ = some (.int .i64 F.LM) := Ky9.out.cell 5
  have zy6 : u7.cell? ⟨g7, 6, none⟩ = some (.slice LA F.R lcap) := Ky9.out.cell 6
  go_wp2_with fail
  refine (RLC.out u7 _ (ED.out u7 T9.out) _ (Below.refl _ _)).mono ?_
  rintro e u8 ⟨lv2, rfl, hl2, b8⟩
  clear zy0 zy1 zy2 zy3 zy4 zy5 zy6
  have W10 := hidE (bel_trans W9.out b8)
  have T10 := hidE (bel_trans T9.out b8)
  have Kx10 := hidE (Kx9.out.since b8)
  have Ky10 := hidE (Ky9.out.since b8)
  have Ka10 := hidE (Ka9.out.since b8)
  clear W9 T9 Kx9 Ky9 Ka9
  have I8 : Hid (ItsL u8 lv l ∧ ItsL u8 lv2 l) := ⟨HL7.out u8 b8, hl2 u8 (Below.refl _ _)⟩
  clear b8 hl2 HL7 RLC
  go_wp2_with fail
  refine ((eitems_any u8 lv lv2 l l I8.out.1 I8.out.2 ll.out ll.out)).mono ?_
  rintro e u9 ⟨B, rfl, hB, b9⟩
  have W11 := hidE (bel_trans W10.out b9)
  have T11 := hidE (bel_trans T10.out b9)
  have Kx11 := hidE (Kx10.out.since b9)
  have Ky11 := hidE (Ky10.out.since b9)
  have Ka11 := hidE (Ka10.out.since b9)
  clear W10 T10 Kx10 Ky10 Ka10
  obtain rfl : B = true := hB.2 rfl
  clear b9 hB I8
  have zx0 : u9.cell? ⟨w.heap.size, 0, none⟩ = some (.int .u64 F.S) := Kx11.out.cell 0
  have zx1 : u9.cell? ⟨w.heap.size, 1, none⟩ = some (.int .i64 F.room) := Kx11.out.cell 1
  have zx2 : u9.cell? ⟨w.heap.size, 2, none⟩ = some (.int .i64 F.votes) := Kx11.out.cell 2
  have zx3 : u9.cell? ⟨w.heap.size, 3, none⟩ = some (.slice A n cap) := Kx11.out.cell 3
  have zx4 : u9.cell? ⟨w.heap.size, 4, none⟩ = some (.int .u64 F.LS) := Kx11.out.cell 4
  have zx5 : u9.cell? ⟨w.heap.size, 5, none⟩ = some (.int .i64 F.LM) := Kx11.out.cell 5
  have zx6 : u9.cell? ⟨w.heap.size, 6, none⟩ = some (.slice LA F.R lcap) := Kx11.out.cell 6
  go_wp2_with fail
  refine (RC.out u9 W11.out).mono ?_
  rintro e u10 ⟨rfl, b10⟩
  clear zx0 zx1 zx2 zx3 zx4 zx5 zx6
  have W12 := hidE (bel_trans W11.out b10)
  have T12 := hidE (bel_trans T11.out b10)
  have Kx12 := hidE (Kx11.out.since b10)
  have Ky12 := hidE (Ky11.out.since b10)
  have Ka12 := hidE (Ka11.out.since b10)
  clear W11 T11 Kx11 Ky11 Ka11
  clear b10 RC q1 q2 q3 q4
  have zy0 : u10.cell? ⟨g7, 0, none⟩ = some (.int .u64 F.S) := Ky12.out.cell 0
  have zy1 : u10.cell? ⟨g7, 1, none⟩ = some (.int .i64 F.room) := Ky12.out.cell 1
  have zy2 : u10.cell? ⟨g7, 2, none⟩ = some (.int .i64 F.votes) := Ky12.out.cell 2
  have zy3 : u10.cell? ⟨g7, 3, none⟩ = some (.slice B9 n c9) := Ky12.out.cell 3
  have zy4 : u10.cell? ⟨g7, 4, none⟩ = some (.int .u64 F.LS) := Ky12.out.cell 4
  have zy5 : u10.cell? ⟨g7, 5, none⟩ = some (.int .i64 F.LM) := Ky12.out.cell 5
  have zy6 : u10.cell? ⟨g7, 6, none⟩ = some (.slice LA F.R lcap) := Ky12.out.cell 6
  go_wp2_with fail
  refine (RAC.out u10 _ (ED.out u10 T12.out) _ (Below.refl _ _)).mono ?_
  rintro e u11 ⟨rfl, b11⟩
  unfold elz
  clear zy0 zy1 zy2 zy3 zy4 zy5 zy6
  have W13 := hidE (bel_trans W12.out b11)
  have T13 := hidE (bel_trans T12.out b11)
  have Kx13 := hidE (Kx12.out.since b11)
  have Ky13 := hidE (Ky12.out.since b11)
  have Ka13 := hidE (Ka12.out.since b11)
  clear W12 T12 Kx12 Ky12 Ka12
  clear b11 RAC
  have BA : Hid (Below u11.heap.size u11 (u11.alloc (.cells #[.int .u64 0, .int .i64 0, .int .i64 0, .slice none 0 0, .int .u64 0, .int .i64 0, .slice none 0 0] 32))) := bel_alloc _ _
  have W14 := hidE (bel_trans W13.out BA.out)
  have T14 := hidE (bel_trans T13.out BA.out)
  have Kx14 := hidE (Kx13.out.since BA.out)
  have Ky14 := hidE (Ky13.out.since BA.out)
  have Ka14 := hidE (Ka13.out.since BA.out)
  clear W13 T13 Kx13 Ky13 Ka13
  have z3 : (u11.alloc (.cells #[.int .u64 0, .int .i64 0, .int .i64 0, .slice none 0 0, .int .u64 0, .int .i64 0, .slice none 0 0] 32)).cell? ⟨g8, 3, none⟩ = some (.slice none 0 0) := Ka14.out.cell 3
  go_wp2_with fail
  generalize (u11.alloc (.cells #[.int .u64 0, .int .i64 0, .int .i64 0, .slice none 0 0, .int .u64 0, .int .i64 0, .slice none 0 0] 32)) = Y4 at BA W14 ⊢
  refine (AW.out _).mono ?_
  rintro e u9 ⟨rfl, b9⟩
  go_wp2_with fail
  go_ret
  exact ⟨rfl, bel_trans W14.out b9⟩
set_option maxHeartbeats 6400000 in
theorem turns_some (C : CtrE) (w : World) (x : Value) (F : Elk) (s : ByteArray) (most : Int) (h : ElIn w x F) (hs : s.size ≤ 9223372036854775807) (im : I most) (ls : ¬ (s.size : Int) > 100) (sm : SmallE F) (l : List Itm) (ll : Hid (l.length ≤ 100000)) (lo hi : Int) (ex fu : Bool) (GC : Hid (GetS w 12 x s lo hi ex fu)) (LC : Hid (ListS w 13 x most l)) (RC : Hid (RightS w 15 x)) (RRC : Hid (∀ u y, ElAt u y F → Calls Try.prog 14 #[y] u fun e w' => e = .returned (.bool true) ∧ Below u.heap.size u w')) (RGC : Hid (∀ u y, ElAt u y F → GetS u 16 y s lo hi ex fu)) (RLC : Hid (∀ u y, ElAt u y F → ListS u 18 y most l)) (G : Elk) (smG : Hid (SmallE G)) (AC : Hid (AddS w x s G)) (RAC : Hid (∀ u y, ElAt u y F → RAddS u y s G)) : Calls Try.prog 3 #[x, .string s, .int .i64 most] w fun e w' => e = .returned (.bool true) ∧ Below w.heap.size w w' := by
  obtain ⟨hel, uS, hR, hb1, hb2⟩ := h
  have AW := hidE (eawake_any C)
  have EX0 := hidE hel
  obtain ⟨A, n, cap, LA, lcap, hn, rfl, _, hr⟩ := el_parts hel
  have HN := hidE hn
  have EX : Hid (∀ u, Below w.heap.size w u → ElAt u (.agg #[.int .u64 F.S, .int .i64 F.room, .int .i64 F.votes, .slice A n cap, .int .u64 F.LS, .int .i64 F.LM, .slice LA F.R lcap]) F) := hidE fun u q => hel.keep (keep_of_below q)
  have RF := hidE fun u (q : Below w.heap.size w u) => ref_is (EX.out u q) HN.out hb1 fun i b hb => (hb2 i b hb).1
  have RI := hidE fun u (q : Below w.heap.size w u) => hr.keep (keep_of_below q)
  have SMC : Hid (∀ u y, ElAt u y F → Calls Try.prog 9 #[y] u (TellsB u (SmallE F))) := hidE fun u y q => esmall_any u y F q (by omega) hR fun i b hb => ⟨by have := (hb2 i b hb).1; omega, (hb2 i b hb).2⟩
  have BX : Hid (Below w.heap.size w (w.alloc (.cells #[.int .u64 F.S, .int .i64 F.room, .int .i64 F.votes, .slice A n cap, .int .u64 F.LS, .int .i64 F.LM, .slice LA F.R lcap] 28))) := bel_alloc _ _
  have KX : Hid (Blk (w.alloc (.cells #[.int .u64 F.S, .int .i64 F.room, .int .i64 F.votes, .slice A n cap, .int .u64 F.LS, .int .i64 F.LM, .slice LA F.R lcap] 28)) w.heap.size 28 #[.int .u64 F.S, .int .i64 F.room, .int .i64 F.votes, .slice A n cap, .int .u64 F.LS, .int .i64 F.LM, .slice LA F.R lcap]) := Blk.new _ _ _
  clear hel hr hn hb1 hb2
  go_enter Try.func3, Try.ntmps3
  go_wp2_with fail
  generalize w.alloc (.cells #[.int .u64 F.S, .int .i64 F.room, .int .i64 F.votes, .slice A n cap, .int .u64 F.LS, .int .i64 F.LM, .slice LA F.R lcap] 28) = X at BX KX ⊢
  refine (RF.out _ BX.out).mono ?_
  rintro e u1 ⟨B9, c9, rfl, hk, b1⟩
  have B1 := hidE (bel_trans BX.out b1)
  have K1 := hidE (KX.out.since b1)
  have BK := hidE hk
  have BA : Hid (Below u1.heap.size u1 (u1.alloc (.cells #[.int .u64 F.S, .int .i64 F.room, .int .i64 F.votes, .slice B9 n c9, .int .u64 F.LS, .int .i64 F.LM, .slice LA F.R lcap] 32))) := bel_alloc _ _
  have KA : Hid (Blk (u1.alloc (.cells #[.int .u64 F.S, .int .i64 F.room, .int .i64 F.votes, .slice B9 n c9, .int .u64 F.LS, .int .i64 F.LM, .slice LA F.R lcap] 32)) u1.heap.size 32 #[.int .u64 F.S, .int .i64 F.room, .int .i64 F.votes, .slice B9 n c9, .int .u64 F.LS, .int .i64 F.LM, .slice LA F.R lcap]) := Blk.new _ _ _
  clear b1 hk BX KX
  go_wp2_with fail
  have B2 := hidE (bel_trans B1.out BA.out)
  have K2 := hidE (K1.out.since BA.out)
  have BK2 := hidE (BK.out.since BA.out)
  clear BA B1 K1 BK
  generalize u1.alloc (.cells #[.int .u64 F.S, .int .i64 F.room, .int .i64 F.votes, .slice B9 n c9, .int .u64 F.LS, .int .i64 F.LM, .slice LA F.R lcap] 32) = Y at KA B2 K2 BK2 ⊢
  generalize u1.heap.size = g7 at KA ⊢
  have ED : Hid (∀ u, Below Y.heap.size Y u → ElAt u (.agg #[.int .u64 F.S, .int .i64 F.room, .int .i64 F.votes, .slice B9 n c9, .int .u64 F.LS, .int .i64 F.LM, .slice LA F.R lcap]) F) := hidE fun u q => ⟨_, _, rfl, by have e := (BK2.out.since q).at; exact e, RI.out u (bel_trans B2.out q)⟩
  refine (SMC.out Y _ (ED.out Y (Below.refl _ _))).mono ?_
  rintro e u2 ⟨B, rfl, hB, b2⟩
  have B3 := hidE (bel_trans B2.out b2)
  have T2 := hidE b2
  have K3 := hidE (K2.out.since b2)
  have K7 := hidE (KA.out.since b2)
  clear b2 B2 K2 KA RF SMC BK2
  obtain rfl : B = true := hB.2 sm
  clear hB
  have T3 := T2
  have W3 := B3
  clear B3
  have LS := hidE ls
  clear ls sm im hs T2
  have ls0 := LS.out
  have zx0 : u2.cell? ⟨w.heap.size, 0, none⟩ = some (.int .u64 F.S) := K3.out.cell 0
  have zx1 : u2.cell? ⟨w.heap.size, 1, none⟩ = some (.int .i64 F.room) := K3.out.cell 1
  have zx2 : u2.cell? ⟨w.heap.size, 2, none⟩ = some (.int .i64 F.votes) := K3.out.cell 2
  have zx3 : u2.cell? ⟨w.heap.size, 3, none⟩ = some (.slice A n cap) := K3.out.cell 3
  have zx4 : u2.cell? ⟨w.heap.size, 4, none⟩ = some (.int .u64 F.LS) := K3.out.cell 4
  have zx5 : u2.cell? ⟨w.heap.size, 5, none⟩ = some (.int .i64 F.LM) := K3.out.cell 5
  have zx6 : u2.cell? ⟨w.heap.size, 6, none⟩ = some (.slice LA F.R lcap) := K3.out.cell 6
  go_wp2_with fail
  clear ls0
  refine (AC.out u2 W3.out).mono ?_
  rintro e u3 ⟨x2, rfl, hx, b3⟩
  obtain ⟨A2, n2, cap2, LA2, lcap2, hn2, rfl, _, _⟩ := el_parts (hx u3 (Below.refl _ _))
  have HX2 := hidE hx
  have HN2 := hidE hn2
  clear hx hn2
  clear zx0 zx1 zx2 zx3 zx4 zx5 zx6
  have W4 := hidE (bel_trans W3.out b3)
  have T4 := hidE (bel_trans T3.out b3)
  have Kx4 := hidE (K3.out.since b3)
  have Ky4 := hidE (K7.out.since b3)
  clear W3 T3 K3 K7
  clear b3 AC
  have BA0 : Hid (Below u3.heap.size u3 (u3.alloc (.cells #[.int .u64 G.S, .int .i64 G.room, .int .i64 G.votes, .slice A2 n2 cap2, .int .u64 G.LS, .int .i64 G.LM, .slice LA2 G.R lcap2] 28))) := bel_alloc _ _
  have BA : Hid (Below u3.heap.size u3 (u3.alloc (.cells #[.int .u64 G.S, .int .i64 G.room, .int .i64 G.votes, .slice A2 n2 cap2, .int .u64 G.LS, .int .i64 G.LM, .slice LA2 G.R lcap2] 28))) := bel_alloc _ _
  have KA : Hid (Blk (u3.alloc (.cells #[.int .u64 G.S, .int .i64 G.room, .int .i64 G.votes, .slice A2 n2 cap2, .int .u64 G.LS, .int .i64 G.LM, .slice LA2 G.R lcap2] 28)) u3.heap.size 28 #[.int .u64 G.S, .int .i64 G.room, .int .i64 G.votes, .slice A2 n2 cap2, .int .u64 G.LS, .int .i64 G.LM, .slice LA2 G.R lcap2]) := Blk.new _ _ _
  have W5 := hidE (bel_trans W4.out BA.out)
  have T5 := hidE (bel_trans T4.out BA.out)
  have Kx5 := hidE (Kx4.out.since BA.out)
  have Ky5 := hidE (Ky4.out.since BA.out)
  clear W4 T4 Kx4 Ky4
  have zx0 : (u3.alloc (.cells #[.int .u64 G.S, .int .i64 G.room, .int .i64 G.votes, .slice A2 n2 cap2, .int .u64 G.LS, .int .i64 G.LM, .slice LA2 G.R lcap2] 28)).cell? ⟨w.heap.size, 0, none⟩ = some (.int .u64 F.S) := Kx5.out.cell 0
  have zx1 : (u3.alloc (.cells #[.int .u64 G.S, .int .i64 G.room, .int .i64 G.votes, .slice A2 n2 cap2, .int .u64 G.LS, .int .i64 G.LM, .slice LA2 G.R lcap2] 28)).cell? ⟨w.heap.size, 1, none⟩ = some (.int .i64 F.room) := Kx5.out.cell 1
  have zx2 : (u3.alloc (.cells #[.int .u64 G.S, .int .i64 G.room, .int .i64 G.votes, .slice A2 n2 cap2, .int .u64 G.LS, .int .i64 G.LM, .slice LA2 G.R lcap2] 28)).cell? ⟨w.heap.size, 2, none⟩ = some (.int .i64 F.votes) := Kx5.out.cell 2
  have zx3 : (u3.alloc (.cells #[.int .u64 G.S, .int .i64 G.room, .int .i64 G.votes, .slice A2 n2 cap2, .int .u64 G.LS, .int .i64 G.LM, .slice LA2 G.R lcap2] 28)).cell? ⟨w.heap.size, 3, none⟩ = some (.slice A n cap) := Kx5.out.cell 3
  have zx4 : (u3.alloc (.cells #[.int .u64 G.S, .int .i64 G.room, .int .i64 G.votes, .slice A2 n2 cap2, .int .u64 G.LS, .int .i64 G.LM, .slice LA2 G.R lcap2] 28)).cell? ⟨w.heap.size, 4, none⟩ = some (.int .u64 F.LS) := Kx5.out.cell 4
  have zx5 : (u3.alloc (.cells #[.int .u64 G.S, .int .i64 G.room, .int .i64 G.votes, .slice A2 n2 cap2, .int .u64 G.LS, .int .i64 G.LM, .slice LA2 G.R lcap2] 28)).cell? ⟨w.heap.size, 5, none⟩ = some (.int .i64 F.LM) := Kx5.out.cell 5
  have zx6 : (u3.alloc (.cells #[.int .u64 G.S, .int .i64 G.room, .int .i64 G.votes, .slice A2 n2 cap2, .int .u64 G.LS, .int .i64 G.LM, .slice LA2 G.R lcap2] 28)).cell? ⟨w.heap.size, 6, none⟩ = some (.slice LA F.R lcap) := Kx5.out.cell 6
  go_wp2_with fail
  generalize (u3.alloc (.cells #[.int .u64 G.S, .int .i64 G.room, .int .i64 G.votes, .slice A2 n2 cap2, .int .u64 G.LS, .int .i64 G.LM, .slice LA2 G.R lcap2] 28)) = Y3 at KA BA BA0 W5 T5 Kx5 Ky5 zx0 zx1 zx2 zx3 zx4 zx5 zx6 ⊢
  have HX3 : Hid (∀ u, Below Y3.heap.size Y3 u → ElAt u (.agg #[.int .u64 G.S, .int .i64 G.room, .int .i64 G.votes, .slice A2 n2 cap2, .int .u64 G.LS, .int .i64 G.LM, .slice LA2 G.R lcap2]) G) := hidE fun u q => HX2.out u (bel_trans BA0.out q)
  clear HX2 BA0
  generalize u3.heap.size = g8 at KA ⊢
  clear BA
  have KAa := KA
  clear KA
  refine (GC.out Y3 W5.out).mono ?_
  rintro e u4 ⟨rfl, b4⟩
  clear zx0 zx1 zx2 zx3 zx4 zx5 zx6
  have D4 := hidE b4
  have W6 := hidE (bel_trans W5.out b4)
  have T6 := hidE (bel_trans T5.out b4)
  have Kx6 := hidE (Kx5.out.since b4)
  have Ky6 := hidE (Ky5.out.since b4)
  have Ka6 := hidE (KAa.out.since b4)
  clear W5 T5 Kx5 Ky5 KAa
  clear b4 GC
  have zx0 : u4.cell? ⟨w.heap.size, 0, none⟩ = some (.int .u64 F.S) := Kx6.out.cell 0
  have zx1 : u4.cell? ⟨w.heap.size, 1, none⟩ = some (.int .i64 F.room) := Kx6.out.cell 1
  have zx2 : u4.cell? ⟨w.heap.size, 2, none⟩ = some (.int .i64 F.votes) := Kx6.out.cell 2
  have zx3 : u4.cell? ⟨w.heap.size, 3, none⟩ = some (.slice A n cap) := Kx6.out.cell 3
  have zx4 : u4.cell? ⟨w.heap.size, 4, none⟩ = some (.int .u64 F.LS) := Kx6.out.cell 4
  have zx5 : u4.cell? ⟨w.heap.size, 5, none⟩ = some (.int .i64 F.LM) := Kx6.out.cell 5
  have zx6 : u4.cell? ⟨w.heap.size, 6, none⟩ = some (.slice LA F.R lcap) := Kx6.out.cell 6
  go_wp2_with fail
  refine (LC.out u4 W6.out).mono ?_
  rintro e u5 ⟨lv, rfl, hl, b5⟩
  clear zx0 zx1 zx2 zx3 zx4 zx5 zx6
  have W7 := hidE (bel_trans W6.out b5)
  have T7 := hidE (bel_trans T6.out b5)
  have Kx7 := hidE (Kx6.out.since b5)
  have Ky7 := hidE (Ky6.out.since b5)
  have Ka7 := hidE (Ka6.out.since b5)
  clear W6 T6 Kx6 Ky6 Ka6
  have D5 := hidE (bel_trans D4.out b5)
  clear D4
  clear b5 LC
  have HL : Hid (∀ u, Below u5.heap.size u5 u → ItsL u lv l) := hidE hl
  clear hl
  have zy0 : u5.cell? ⟨g7, 0, none⟩ = some (.int .u64 F.S) := Ky7.out.cell 0
  have zy1 : u5.cell? ⟨g7, 1, none⟩ = some (.int .i64 F.room) := Ky7.out.cell 1
  have zy2 : u5.cell? ⟨g7, 2, none⟩ = some (.int .i64 F.votes) := Ky7.out.cell 2
  have zy3 : u5.cell? ⟨g7, 3, none⟩ = some (.slice B9 n c9) := Ky7.out.cell 3
  have zy4 : u5.cell? ⟨g7, 4, none⟩ = some (.int .u64 F.LS) := Ky7.out.cell 4
  have zy5 : u5.cell? ⟨g7, 5, none⟩ = some (.int .i64 F.LM) := Ky7.out.cell 5
  have zy6 : u5.cell? ⟨g7, 6, none⟩ = some (.slice LA F.R lcap) := Ky7.out.cell 6
  go_wp2_with fail
  refine (RRC.out u5 _ (ED.out u5 T7.out)).mono ?_
  rintro e u6 ⟨rfl, b6⟩
  clear zy0 zy1 zy2 zy3 zy4 zy5 zy6
  have W8 := hidE (bel_trans W7.out b6)
  have T8 := hidE (bel_trans T7.out b6)
  have Kx8 := hidE (Kx7.out.since b6)
  have Ky8 := hidE (Ky7.out.since b6)
  have Ka8 := hidE (Ka7.out.since b6)
  clear W7 T7 Kx7 Ky7 Ka7
  have D6 := hidE (bel_trans D5.out b6)
  clear D5
  have b66 := hidE b6
  clear b6
  have HL6 : Hid (∀ u, Below u6.heap.size u6 u → ItsL u lv l) := hidE fun u q => HL.out u (bel_trans b66.out q)
  clear HL b66
  have zy0 : u6.cell? ⟨g7, 0, none⟩ = some (.int .u64 F.S) := Ky8.out.cell 0
  have zy1 : u6.cell? ⟨g7, 1, none⟩ = some (.int .i64 F.room) := Ky8.out.cell 1
  have zy2 : u6.cell? ⟨g7, 2, none⟩ = some (.int .i64 F.votes) := Ky8.out.cell 2
  have zy3 : u6.cell? ⟨g7, 3, none⟩ = some (.slice B9 n c9) := Ky8.out.cell 3
  have zy4 : u6.cell? ⟨g7, 4, none⟩ = some (.int .u64 F.LS) := Ky8.out.cell 4
  have zy5 : u6.cell? ⟨g7, 5, none⟩ = some (.int .i64 F.LM) := Ky8.out.cell 5
  have zy6 : u6.cell? ⟨g7, 6, none⟩ = some (.slice LA F.R lcap) := Ky8.out.cell 6
  go_wp2_with fail
  refine (RGC.out u6 _ (ED.out u6 T8.out) _ (Below.refl _ _)).mono ?_
  rintro e u7 ⟨rfl, b7⟩
  clear zy0 zy1 zy2 zy3 zy4 zy5 zy6
  have W9 := hidE (bel_trans W8.out b7)
  have T9 := hidE (bel_trans T8.out b7)
  have Kx9 := hidE (Kx8.out.since b7)
  have Ky9 := hidE (Ky8.out.since b7)
  have Ka9 := hidE (Ka8.out.since b7)
  clear W8 T8 Kx8 Ky8 Ka8
  have D7 := hidE (bel_trans D6.out b7)
  clear D6
  have b77 := hidE b7
  clear b7
  have HL7 : Hid (∀ u, Below u7.heap.size u7 u → ItsL u lv l) := hidE fun u q => HL6.out u (bel_trans b77.out q)
  clear HL6 b77 RGC RRC
  have q1 : (lo != lo) = false := by simp
  have q2 : (hi != hi) = false := by simp
  have q3 : (ex != ex) = false := by simp
  have q4 : (fu != fu) = false := by simp
  have zy0 : u7.cell? ⟨g7, 0, none⟩ = some (.int .u64 F.S) := Ky9.out.cell 0
  have zy1 : u7.cell? ⟨g7, 1, none⟩ = some (.int .i64 F.room) := Ky9.out.cell 1
  have zy2 : u7.cell? ⟨g7, 2, none⟩ = some (.int .i64 F.votes) := Ky9.out.cell 2
  have zy3 : u7.cell? ⟨g7, 3, none⟩ = some (.slice B9 n c9) := Ky9.out.cell 3
  have zy4 : u7.cell? ⟨g7, 4, none⟩ = some (.int .u64 F.LS) := Ky9.out.cell 4
  have zy5 : u7.cell? ⟨g7, 5, none⟩ = some (.int .i64 F.LM) := Ky9.out.cell 5
  have zy6 : u7.cell? ⟨g7, 6, none⟩ = some (.slice LA F.R lcap) := Ky9.out.cell 6
  go_wp2_with fail
  refine (RLC.out u7 _ (ED.out u7 T9.out) _ (Below.refl _ _)).mono ?_
  rintro e u8 ⟨lv2, rfl, hl2, b8⟩
  clear zy0 zy1 zy2 zy3 zy4 zy5 zy6
  have W10 := hidE (bel_trans W9.out b8)
  have T10 := hidE (bel_trans T9.out b8)
  have Kx10 := hidE (Kx9.out.since b8)
  have Ky10 := hidE (Ky9.out.since b8)
  have Ka10 := hidE (Ka9.out.since b8)
  clear W9 T9 Kx9 Ky9 Ka9
  have D8 := hidE (bel_trans D7.out b8)
  clear D7
  have I8 : Hid (ItsL u8 lv l ∧ ItsL u8 lv2 l) := ⟨HL7.out u8 b8, hl2 u8 (Below.refl _ _)⟩
  clear b8 hl2 HL7 RLC
  go_wp2_with fail
  refine ((eitems_any u8 lv lv2 l l I8.out.1 I8.out.2 ll.out ll.out)).mono ?_
  rintro e u9 ⟨B, rfl, hB, b9⟩
  have W11 := hidE (bel_trans W10.out b9)
  have T11 := hidE (bel_trans T10.out b9)
  have Kx11 := hidE (Kx10.out.since b9)
  have Ky11 := hidE (Ky10.out.since b9)
  have Ka11 := hidE (Ka10.out.since b9)
  clear W10 T10 Kx10 Ky10 Ka10
  have D9 := hidE (bel_trans D8.out b9)
  clear D8
  obtain rfl : B = true := hB.2 rfl
  clear b9 hB I8
  have zx0 : u9.cell? ⟨w.heap.size, 0, none⟩ = some (.int .u64 F.S) := Kx11.out.cell 0
  have zx1 : u9.cell? ⟨w.heap.size, 1, none⟩ = some (.int .i64 F.room) := Kx11.out.cell 1
  have zx2 : u9.cell? ⟨w.heap.size, 2, none⟩ = some (.int .i64 F.votes) := Kx11.out.cell 2
  have zx3 : u9.cell? ⟨w.heap.size, 3, none⟩ = some (.slice A n cap) := Kx11.out.cell 3
  have zx4 : u9.cell? ⟨w.heap.size, 4, none⟩ = some (.int .u64 F.LS) := Kx11.out.cell 4
  have zx5 : u9.cell? ⟨w.heap.size, 5, none⟩ = some (.int .i64 F.LM) := Kx11.out.cell 5
  have zx6 : u9.cell? ⟨w.heap.size, 6, none⟩ = some (.slice LA F.R lcap) := Kx11.out.cell 6
  go_wp2_with fail
  refine (RC.out u9 W11.out).mono ?_
  rintro e u10 ⟨rfl, b10⟩
  clear zx0 zx1 zx2 zx3 zx4 zx5 zx6
  have W12 := hidE (bel_trans W11.out b10)
  have T12 := hidE (bel_trans T11.out b10)
  have Kx12 := hidE (Kx11.out.since b10)
  have Ky12 := hidE (Ky11.out.since b10)
  have Ka12 := hidE (Ka11.out.since b10)
  clear W11 T11 Kx11 Ky11 Ka11
  have D10 := hidE (bel_trans D9.out b10)
  clear D9
  clear b10 RC q1 q2 q3 q4
  have zy0 : u10.cell? ⟨g7, 0, none⟩ = some (.int .u64 F.S) := Ky12.out.cell 0
  have zy1 : u10.cell? ⟨g7, 1, none⟩ = some (.int .i64 F.room) := Ky12.out.cell 1
  have zy2 : u10.cell? ⟨g7, 2, none⟩ = some (.int .i64 F.votes) := Ky12.out.cell 2
  have zy3 : u10.cell? ⟨g7, 3, none⟩ = some (.slice B9 n c9) := Ky12.out.cell 3
  have zy4 : u10.cell? ⟨g7, 4, none⟩ = some (.int .u64 F.LS) := Ky12.out.cell 4
  have zy5 : u10.cell? ⟨g7, 5, none⟩ = some (.int .i64 F.LM) := Ky12.out.cell 5
  have zy6 : u10.cell? ⟨g7, 6, none⟩ = some (.slice LA F.R lcap) := Ky12.out.cell 6
  go_wp2_with fail
  refine (RAC.out u10 _ (ED.out u10 T12.out) _ (Below.refl _ _)).mono ?_
  rintro e u11 ⟨y2, rfl, hy, b11⟩
  obtain ⟨A4, n4, cap4, LA4, lcap4, hn4, rfl, _, _⟩ := el_parts (hy u11 (Below.refl _ _))
  have HY2 := hidE hy
  clear hy hn4
  clear zy0 zy1 zy2 zy3 zy4 zy5 zy6
  have W13 := hidE (bel_trans W12.out b11)
  have T13 := hidE (bel_trans T12.out b11)
  have Kx13 := hidE (Kx12.out.since b11)
  have Ky13 := hidE (Ky12.out.since b11)
  have Ka13 := hidE (Ka12.out.since b11)
  clear W12 T12 Kx12 Ky12 Ka12
  have D11 := hidE (bel_trans D10.out b11)
  clear D10
  clear b11 RAC
  have BA0 : Hid (Below u11.heap.size u11 (u11.alloc (.cells #[.int .u64 G.S, .int .i64 G.room, .int .i64 G.votes, .slice A4 n4 cap4, .int .u64 G.LS, .int .i64 G.LM, .slice LA4 G.R lcap4] 32))) := bel_alloc _ _
  have D12 := hidE (bel_trans D11.out BA0.out)
  clear D11
  have BA : Hid (Below u11.heap.size u11 (u11.alloc (.cells #[.int .u64 G.S, .int .i64 G.room, .int .i64 G.votes, .slice A4 n4 cap4, .int .u64 G.LS, .int .i64 G.LM, .slice LA4 G.R lcap4] 32))) := bel_alloc _ _
  have KA : Hid (Blk (u11.alloc (.cells #[.int .u64 G.S, .int .i64 G.room, .int .i64 G.votes, .slice A4 n4 cap4, .int .u64 G.LS, .int .i64 G.LM, .slice LA4 G.R lcap4] 32)) u11.heap.size 32 #[.int .u64 G.S, .int .i64 G.room, .int .i64 G.votes, .slice A4 n4 cap4, .int .u64 G.LS, .int .i64 G.LM, .slice LA4 G.R lcap4]) := Blk.new _ _ _
  have W14 := hidE (bel_trans W13.out BA.out)
  have T14 := hidE (bel_trans T13.out BA.out)
  have Kx14 := hidE (Kx13.out.since BA.out)
  have Ky14 := hidE (Ky13.out.since BA.out)
  have Ka14 := hidE (Ka13.out.since BA.out)
  clear W13 T13 Kx13 Ky13 Ka13
  go_wp2_with fail
  generalize (u11.alloc (.cells #[.int .u64 G.S, .int .i64 G.room, .int .i64 G.votes, .slice A4 n4 cap4, .int .u64 G.LS, .int .i64 G.LM, .slice LA4 G.R lcap4] 32)) = Y4 at KA BA BA0 D12 W14 T14 Kx14 Ky14 Ka14  ⊢
  have HY4 : Hid (∀ u, Below Y4.heap.size Y4 u → ElAt u (.agg #[.int .u64 G.S, .int .i64 G.room, .int .i64 G.votes, .slice A4 n4 cap4, .int .u64 G.LS, .int .i64 G.LM, .slice LA4 G.R lcap4]) G) := hidE fun u q => HY2.out u (bel_trans BA0.out q)
  clear HY2 BA0
  generalize u11.heap.size = g19 at KA ⊢
  clear BA
  have KAr := KA
  clear KA
  have HX4 : Hid (∀ u, Below Y4.heap.size Y4 u → ElAt u (.agg #[.int .u64 G.S, .int .i64 G.room, .int .i64 G.votes, .slice A2 n2 cap2, .int .u64 G.LS, .int .i64 G.LM, .slice LA2 G.R lcap2]) G) := hidE fun u q => HX3.out u (bel_trans D12.out q)
  clear HX3 D12
  have RF2 : Hid (∀ u, Below Y4.heap.size Y4 u → Calls Try.prog 8 #[.agg #[.int .u64 G.S, .int .i64 G.room, .int .i64 G.votes, .slice A2 n2 cap2, .int .u64 G.LS, .int .i64 G.LM, .slice LA2 G.R lcap2]] u fun e w' => ∃ B5 c5, e = .returned (.agg #[.int .u64 G.S, .int .i64 G.room, .int .i64 G.votes, .slice B5 n2 c5, .int .u64 G.LS, .int .i64 G.LM, .slice LA2 G.R lcap2]) ∧ Held (fun q => u.heap.size ≤ q) (fun v => BktsE v (.slice B5 n2 c5) G.bs) w' ∧ Below u.heap.size u w') := hidE fun u q => ref_is (HX4.out u q) HN2.out (by have := smG.out.1; omega) fun i b hb => by have := (smG.out.2.2 i b hb).1; omega
  have EQ : Hid (∀ u y, Below Y4.heap.size Y4 u → ElAt u y G → Calls Try.prog 20 #[y, .agg #[.int .u64 G.S, .int .i64 G.room, .int .i64 G.votes, .slice A4 n4 cap4, .int .u64 G.LS, .int .i64 G.LM, .slice LA4 G.R lcap4]] u fun e w' => e = .returned (.bool true) ∧ Below u.heap.size u w') := hidE fun u y q hy => eequal_same u y _ G hy (HY4.out u q) smG.out
  refine letterQ ?_
  intro QQ hQQ
  have Z0 : Hid (Below Y4.heap.size Y4 Y4.drew) := (Below.refl _ _).drew
  refine wp_region_held_drew (S := fun w2 => Below Y4.heap.size Y4 w2) (by kernel_rfl) Z0.out (fun hHeld => ?_)
  clear hHeld
  generalize Y4.drew = q0 at Z0 ⊢
  refine wpAnyH_take (i := 0) (v := ?_) rfl (by kernel_rfl) (by kernel_rfl) (by kernel_rfl) (fun _ _ _ h => h) (Or.inl ⟨by rfl, ?_⟩) Z0.out ?_
  rotate_left
  · intro wq hSw; go_simp; first | done | with_reducible rfl
  simp only [List.getElem_toArray, List.getElem_cons_zero, Act.put, List.setIfInBounds_toArray, List.set_cons_zero, List.set_cons_succ]
  refine wpAnyH_take (i := 1) (v := ?_) rfl (by kernel_rfl) (by kernel_rfl) (by kernel_rfl) (fun _ _ _ h => h) (Or.inl ⟨by rfl, ?_⟩) Z0.out ?_
  rotate_left
  · intro wq hSw; go_simp; first | done | with_reducible rfl
  simp only [List.getElem_toArray, List.getElem_cons_zero, List.getElem_cons_succ, Act.put, List.setIfInBounds_toArray, List.set_cons_zero, List.set_cons_succ]
  refine wpAnyH_take (i := 2) (v := ?_) rfl (by kernel_rfl) (by kernel_rfl) (by kernel_rfl) (fun _ _ _ h => h) (Or.inl ⟨by rfl, ?_⟩) Z0.out ?_
  rotate_left
  · intro wq hSw; go_simp; first | done | with_reducible rfl
  simp only [List.getElem_toArray, List.getElem_cons_zero, List.getElem_cons_succ, Act.put, List.setIfInBounds_toArray, List.set_cons_zero, List.set_cons_succ]
  refine wpAnyH_take (i := 3) (v := ?_) rfl (by kernel_rfl) (by kernel_rfl) (by kernel_rfl) (fun _ _ _ h => h) (Or.inl ⟨by rfl, ?_⟩) Z0.out ?_
  rotate_left
  · intro wq hSw; have cl0 := (Ka14.out.since hSw).cell 0; have cl1 := (Ka14.out.since hSw).cell 1; have cl2 := (Ka14.out.since hSw).cell 2; have cl3 := (Ka14.out.since hSw).cell 3; have cl4 := (Ka14.out.since hSw).cell 4; have cl5 := (Ka14.out.since hSw).cell 5; have cl6 := (Ka14.out.since hSw).cell 6; go_simp; first | done | with_reducible rfl
  simp only [List.getElem_toArray, List.getElem_cons_zero, List.getElem_cons_succ, Act.put, List.setIfInBounds_toArray, List.set_cons_zero, List.set_cons_succ]
  refine wpAnyH_take (i := 5) (v := ?_) rfl (by kernel_rfl) (by kernel_rfl) (by kernel_rfl) (fun _ _ _ h => h) (Or.inl ⟨by rfl, ?_⟩) Z0.out ?_
  rotate_left
  · intro wq hSw; have cl0 := (KAr.out.since hSw).cell 0; have cl1 := (KAr.out.since hSw).cell 1; have cl2 := (KAr.out.since hSw).cell 2; have cl3 := (KAr.out.since hSw).cell 3; have cl4 := (KAr.out.since hSw).cell 4; have cl5 := (KAr.out.since hSw).cell 5; have cl6 := (KAr.out.since hSw).cell 6; go_simp; first | done | with_reducible rfl
  simp only [List.getElem_toArray, List.getElem_cons_zero, List.getElem_cons_succ, Act.put, List.setIfInBounds_toArray, List.set_cons_zero, List.set_cons_succ]
  refine wpAnyH_ready (rs := [4]) (by kernel_rfl) (by simp) ?_
  refine AllReadyH.cons rfl (fun K0 hK0 => ?_) ?_
  rotate_left
  · exact AllReadyH.nil
  refine step_func 8 #[.agg #[.int .u64 G.S, .int .i64 G.room, .int .i64 G.votes, .slice A2 n2 cap2, .int .u64 G.LS, .int .i64 G.LM, .slice LA2 G.R lcap2]] (by rfl) rfl (by simp [Act.eval]) (fun _ _ => by kernel_rfl) ?_
  refine (RF2.out _ Z0.out).mono ?_
  rintro e v1 ⟨B5, c5, rfl, hk, b1⟩
  have Z1 := hidE (bel_trans Z0.out b1)
  have HK : Hid (ElAt v1 (.agg #[.int .u64 G.S, .int .i64 G.room, .int .i64 G.votes, .slice B5 n2 c5, .int .u64 G.LS, .int .i64 G.LM, .slice LA2 G.R lcap2]) G) := by
    obtain ⟨_, rv, e1, _, e3⟩ := HX4.out v1 Z1.out
    refine ⟨_, rv, ?_, hk.at, e3⟩
    unfold elv at e1 ⊢
    simp only [Value.agg.injEq] at e1 ⊢
    simp at e1 ⊢
    exact e1.2
  clear b1
  refine ⟨_, rfl, ?_⟩
  refine hK0.out _ _ (by exact Z1.out) (fun hHeld => ?_)
  clear hK0 K0 hHeld
  simp only [Act.put, List.setIfInBounds_toArray]
  refine wpAnyH_ready (rs := [6]) (by kernel_rfl) (by simp) ?_
  refine AllReadyH.cons rfl (fun K0 hK0 => ?_) ?_
  rotate_left
  · exact AllReadyH.nil
  refine step_func 20 #[.agg #[.int .u64 G.S, .int .i64 G.room, .int .i64 G.votes, .slice B5 n2 c5, .int .u64 G.LS, .int .i64 G.LM, .slice LA2 G.R lcap2], .agg #[.int .u64 G.S, .int .i64 G.room, .int .i64 G.votes, .slice A4 n4 cap4, .int .u64 G.LS, .int .i64 G.LM, .slice LA4 G.R lcap4]] (by rfl) rfl (by simp [Act.eval]) (fun _ _ => by kernel_rfl) ?_
  refine (EQ.out _ _ Z1.out HK.out).mono ?_
  rintro e v2 ⟨rfl, b2⟩
  have Z2 := hidE (bel_trans Z1.out b2)
  clear b2 HK
  refine ⟨_, rfl, ?_⟩
  refine hK0.out _ _ (by exact Z2.out) (fun hHeld => ?_)
  clear hK0 K0 hHeld
  simp only [Act.put, List.setIfInBounds_toArray]
  refine wpAnyH_take (i := 7) (v := ?_) rfl (by kernel_rfl) (by kernel_rfl) (by kernel_rfl) (fun _ _ _ h => h) (Or.inl ⟨by rfl, ?_⟩) Z2.out ?_
  rotate_left
  · intro wq hSw; go_simp; first | done | with_reducible rfl
  simp only [List.getElem_toArray, List.getElem_cons_zero, List.getElem_cons_succ, Act.put, List.setIfInBounds_toArray, List.set_cons_zero, List.set_cons_succ]
  refine wpAnyH_take (i := 8) (v := ?_) rfl (by kernel_rfl) (by kernel_rfl) (by kernel_rfl) (fun _ _ _ h => h) (Or.inl ⟨by rfl, ?_⟩) Z2.out ?_
  rotate_left
  · intro wq hSw; go_simp; first | done | with_reducible rfl
  simp only [List.getElem_toArray, List.getElem_cons_zero, List.getElem_cons_succ, Act.put, List.setIfInBounds_toArray, List.set_cons_zero, List.set_cons_succ]
  refine wpAnyH_ready (rs := [9]) (by kernel_rfl) (by simp) ?_
  refine AllReadyH.cons rfl (fun K0 hK0 => ?_) ?_
  rotate_left
  · exact AllReadyH.nil
  refine step_func 10 #[] (by rfl) rfl (by simp [Act.eval]) (fun _ _ => by kernel_rfl) ?_
  refine (AW.out _).mono ?_
  rintro e v3 ⟨rfl, b3⟩
  have Z3 := hidE (bel_trans Z2.out b3)
  clear b3
  refine ⟨_, rfl, ?_⟩
  refine hK0.out _ _ (by exact Z3.out) (fun hHeld => ?_)
  clear hK0 K0 hHeld
  simp only [Act.put, List.setIfInBounds_toArray]
  refine wpAnyH_take (i := 10) (v := ?_) rfl (by kernel_rfl) (by kernel_rfl) (by kernel_rfl) (fun _ _ _ h => h) (Or.inl ⟨by rfl, ?_⟩) Z3.out ?_
  rotate_left
  · intro wq hSw; go_simp; first | done | with_reducible rfl
  simp only [List.getElem_toArray, List.getElem_cons_zero, List.getElem_cons_succ, Act.put, List.setIfInBounds_toArray, List.set_cons_zero, List.set_cons_succ]
  refine wpAnyH_take (i := 11) (v := ?_) rfl (by kernel_rfl) (by kernel_rfl) (by kernel_rfl) (fun _ _ _ h => h) (Or.inl ⟨by rfl, ?_⟩) Z3.out ?_
  rotate_left
  · intro wq hSw; go_simp; first | done | with_reducible rfl
  simp only [List.getElem_toArray, List.getElem_cons_zero, List.getElem_cons_succ, Act.put, List.setIfInBounds_toArray, List.set_cons_zero, List.set_cons_succ]
  refine wpAnyH_done (by kernel_rfl) ?_ _
  refine NoPanic.normal ?_
  refine hQQ.out _ _ ?_
  clear hQQ
  go_wp2_with fail
  go_ret
  exact ⟨rfl, bel_trans W14.out Z3.out⟩
theorem turns_all (C : CtrE) (w : World) (x : Value) (F : Elk) (s : ByteArray) (most : Int) (h : ElIn w x F) (hs : s.size ≤ 9223372036854775807) (im : I most) : Calls Try.prog 3 #[x, .string s, .int .i64 most] w fun e w' => e = .returned (.bool true) ∧ Below w.heap.size w w' := by
  by_cases sm : SmallE F
  · by_cases ls : (s.size : Int) > 100
    · exact turns_long C w x F s most h hs im sm ls
    · by_cases rt : RightE F
      · obtain ⟨b, hb⟩ : ∃ b, F.bs[placeN F.S s F.bs.length 0]? = some b := ⟨_, List.getElem?_eq_getElem (placeN_lt _ _ _ _ rt.2.2.2.2.1)⟩
        obtain ⟨lo, hi, ex, fu, hg⟩ : ∃ lo hi ex fu, getE F.R (F.L 0) F.LS b F.Z s = (lo, hi, ex, fu) := ⟨_, _, _, _, rfl⟩
        have uS := h.2.1
        have h1 := h.1
        have s100 : s.size ≤ 100 := by omega
        have LL : (listBs most [] F.bs).length ≤ 100000 := by
          have e := listBs_small most F.bs [] fun b hb => by
            obtain ⟨i, hi⟩ := List.mem_iff_getElem?.1 hb
            exact (sm.2.2 i b hi).1
          have := sm.1
          simp only [List.length_nil] at e
          omega
        have AD := add_turns C w x F s b h1 uS rt sm s100 hb
        have RD := fun u y (q : ElAt u y F) => radd_turns u y F s b q uS rt sm s100 hb
        have GC := hidE (get_turns C w x F s b lo hi ex fu h1 uS rt sm s100 hb hg)
        have LC := hidE (list_turns C w x F most h1 uS rt sm im)
        have RC := hidE (right_turns C w x F h1 uS rt sm)
        have RRC : Hid (∀ u y, ElAt u y F → Calls Try.prog 14 #[y] u fun e w' => e = .returned (.bool true) ∧ Below u.heap.size u w') := hidE fun u y q => (eright_any u y F q uS sm).mono fun e w' t => by
          obtain ⟨B, rfl, h2, h3⟩ := t
          exact ⟨by rw [h2.2 rt], h3⟩
        have RGC := hidE fun u y (q : ElAt u y F) => rget_turns u y F s b lo hi ex fu q uS rt s100 hb hg
        have RLC := hidE fun u y (q : ElAt u y F) => rlist_turns u y F most q sm
        cases ga : El.addB F.room.toNat F.votes b s with
        | none => exact turns_none C w x F s most h hs im ls sm _ (hidE LL) lo hi ex fu GC LC RC RRC RGC RLC (hidE (AD.1 ga)) (hidE fun u y q => (RD u y q).1 ga)
        | some y =>
          obtain ⟨b', o⟩ := y
          exact turns_some C w x F s most h hs im ls sm _ (hidE LL) lo hi ex fu GC LC RC RRC RGC RLC _ (hidE (small_set rt sm hb ga s100 _)) (hidE (AD.2 b' o ga)) (hidE fun u y q => (RD u y q).2 b' o ga)
      · exact turns_bad C w x F s most h hs im sm ls rt
  · exact turns_wide C w x F s most h hs im sm
end Go.Proofs.Ytihealembikkiaa
