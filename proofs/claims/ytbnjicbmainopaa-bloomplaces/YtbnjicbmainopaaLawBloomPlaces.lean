
/-
  BloomPlaces: places are those of bits, as many as there are hashes, and hang on the seed and the key alone. No condition.
-/
import Derived.Test.YtbnjicbmainopaaRows
import Derived.Test.YtbnjicbmainopaaBlmAwake
import Derived.WalkKit
import Derived.ProofKit
import Derived.OpenShut
import Derived.ShutString
import Derived.ChangeOld
import Derived.ChangeMaps5
import Derived.Below
import Derived.Carry
import Derived.Laws.StructEq
import Derived.BigQuiet
namespace Go.Proofs.Ytbnjicbmainopaa.bloomPlaces
open Fm Bl L2 Go.Deep
open Go.ChangeShapes Go.WideShapes Go.ChangeAt Go.RowKit Go.ChangeMaps
set_option linter.unusedVariables false

theorem own : ownKnob Try.prog.godebug = none := by kernel_rfl

set_option maxRecDepth 8000 in
set_option maxHeartbeats 3200000 in
theorem walk (v0 : Value) (F0 : Flt) (s : ByteArray) (w : World) (h0 : FilterIn w v0 F0) (ws : s.size ≤ 9223372036854775807) :
    Calls Try.prog 8 #[v0, .string s] w fun e w' => e = .returned (.bool true) ∧ Below w.heap.size w w' := by
  obtain ⟨S, H, n, B⟩ := F0
  obtain ⟨hF, uS, iH⟩ := h0
  simp only at hF uS iH
  obtain ⟨v, rfl, A, cap, bq, oq, rfl, hcap, q3, q4⟩ := id hF
  by_cases c7 : 300 < n
  · have BEL0 : Hid (Below w.heap.size w w) := Below.refl _ _
    have FA_a_0 : Hid (FilterAt w (.agg #[.int .u64 S, .int .i64 H, .slice A n cap]) S H n B) := hF
    clear hF q3 q4 hcap
    go_enter Try.func8, Try.ntmps8
    have BEL1 : Hid (Below w.heap.size w (w.alloc (.cells #[.int .u64 S, .int .i64 H, .slice A n cap] 25))) := bel_trans BEL0.out (bel_alloc _ _)
    have FA_a_1 : Hid (FilterAt (w.alloc (.cells #[.int .u64 S, .int .i64 H, .slice A n cap] 25)) (.agg #[.int .u64 S, .int .i64 H, .slice A n cap]) S H n B) := FA_a_0.out.keep (keep_of_below (bel_alloc _ _))
    clear BEL0 FA_a_0
    have KB_bx_1 : Hid (Blk (w.alloc (.cells #[.int .u64 S, .int .i64 H, .slice A n cap] 25)) (w.heap.size) 25 #[.int .u64 S, .int .i64 H, .slice A n cap]) := Blk.new _ _ _
    go_wp2_with fail
    refine (awake_any _).mono ?_
    rintro e ww99 ⟨rfl, b9⟩
    have BEL2 : Hid (Below w.heap.size w ww99) := bel_trans BEL1.out b9
    have FA_a_2 : Hid (FilterAt ww99 (.agg #[.int .u64 S, .int .i64 H, .slice A n cap]) S H n B) := FA_a_1.out.keep (keep_of_below b9)
    have KB_bx_2 : Hid (Blk ww99 (w.heap.size) 25 #[.int .u64 S, .int .i64 H, .slice A n cap]) := KB_bx_1.out.since b9
    clear BEL1 FA_a_1 KB_bx_1
    clear b9
    go_wp2_with fail
    go_ret
    exact ⟨rfl, BEL2.out⟩
  by_cases c12 : 100 < s.size
  · have BEL0 : Hid (Below w.heap.size w w) := Below.refl _ _
    have FA_a_0 : Hid (FilterAt w (.agg #[.int .u64 S, .int .i64 H, .slice A n cap]) S H n B) := hF
    clear hF q3 q4 hcap
    go_enter Try.func8, Try.ntmps8
    have BEL1 : Hid (Below w.heap.size w (w.alloc (.cells #[.int .u64 S, .int .i64 H, .slice A n cap] 25))) := bel_trans BEL0.out (bel_alloc _ _)
    have FA_a_1 : Hid (FilterAt (w.alloc (.cells #[.int .u64 S, .int .i64 H, .slice A n cap] 25)) (.agg #[.int .u64 S, .int .i64 H, .slice A n cap]) S H n B) := FA_a_0.out.keep (keep_of_below (bel_alloc _ _))
    clear BEL0 FA_a_0
    have KB_bx_1 : Hid (Blk (w.alloc (.cells #[.int .u64 S, .int .i64 H, .slice A n cap] 25)) (w.heap.size) 25 #[.int .u64 S, .int .i64 H, .slice A n cap]) := Blk.new _ _ _
    go_wp2_with fail
    refine (awake_any _).mono ?_
    rintro e ww99 ⟨rfl, b9⟩
    have BEL2 : Hid (Below w.heap.size w ww99) := bel_trans BEL1.out b9
    have FA_a_2 : Hid (FilterAt ww99 (.agg #[.int .u64 S, .int .i64 H, .slice A n cap]) S H n B) := FA_a_1.out.keep (keep_of_below b9)
    have KB_bx_2 : Hid (Blk ww99 (w.heap.size) 25 #[.int .u64 S, .int .i64 H, .slice A n cap]) := KB_bx_1.out.since b9
    clear BEL1 FA_a_1 KB_bx_1
    clear b9
    go_wp2_with fail
    go_ret
    exact ⟨rfl, BEL2.out⟩
  by_cases hf : fitsB n H = true
  rotate_left
  · have hff : fitsB n H = false := by simpa using hf
    clear hf
    have BEL0 : Hid (Below w.heap.size w w) := Below.refl _ _
    have FA_a_0 : Hid (FilterAt w (.agg #[.int .u64 S, .int .i64 H, .slice A n cap]) S H n B) := hF
    clear hF q3 q4 hcap
    go_enter Try.func8, Try.ntmps8
    have BEL1 : Hid (Below w.heap.size w (w.alloc (.cells #[.int .u64 S, .int .i64 H, .slice A n cap] 25))) := bel_trans BEL0.out (bel_alloc _ _)
    have FA_a_1 : Hid (FilterAt (w.alloc (.cells #[.int .u64 S, .int .i64 H, .slice A n cap] 25)) (.agg #[.int .u64 S, .int .i64 H, .slice A n cap]) S H n B) := FA_a_0.out.keep (keep_of_below (bel_alloc _ _))
    clear BEL0 FA_a_0
    have KB_bx_1 : Hid (Blk (w.alloc (.cells #[.int .u64 S, .int .i64 H, .slice A n cap] 25)) (w.heap.size) 25 #[.int .u64 S, .int .i64 H, .slice A n cap]) := Blk.new _ _ _
    have CE_bx_0 : ((w.alloc (.cells #[.int .u64 S, .int .i64 H, .slice A n cap] 25))).cell? ⟨w.heap.size, 0, none⟩ = some (.int .u64 S) := KB_bx_1.out.cell 0
    have CE_bx_1 : ((w.alloc (.cells #[.int .u64 S, .int .i64 H, .slice A n cap] 25))).cell? ⟨w.heap.size, 1, none⟩ = some (.int .i64 H) := KB_bx_1.out.cell 1
    have CE_bx_2 : ((w.alloc (.cells #[.int .u64 S, .int .i64 H, .slice A n cap] 25))).cell? ⟨w.heap.size, 2, none⟩ = some (.slice A n cap) := KB_bx_1.out.cell 2
    have CE_bx_lt : w.heap.size < ((w.alloc (.cells #[.int .u64 S, .int .i64 H, .slice A n cap] 25))).heap.size := KB_bx_1.out.lt
    go_wp2_with fail
    refine (right_any _ _ S H n _ FA_a_1.out).mono ?_
    rintro e ww1 ⟨rfl, b1⟩
    clear CE_bx_0 CE_bx_1 CE_bx_2 CE_bx_lt
    have BEL2 : Hid (Below w.heap.size w ww1) := bel_trans BEL1.out b1
    have FA_a_2 : Hid (FilterAt ww1 (.agg #[.int .u64 S, .int .i64 H, .slice A n cap]) S H n B) := FA_a_1.out.keep (keep_of_below b1)
    have KB_bx_2 : Hid (Blk ww1 (w.heap.size) 25 #[.int .u64 S, .int .i64 H, .slice A n cap]) := KB_bx_1.out.since b1
    clear BEL1 FA_a_1 KB_bx_1
    clear b1
    rw [hff]
    go_wp2_with fail
    refine (awake_any _).mono ?_
    rintro e ww99 ⟨rfl, b9⟩
    have BEL3 : Hid (Below w.heap.size w ww99) := bel_trans BEL2.out b9
    have FA_a_3 : Hid (FilterAt ww99 (.agg #[.int .u64 S, .int .i64 H, .slice A n cap]) S H n B) := FA_a_2.out.keep (keep_of_below b9)
    have KB_bx_3 : Hid (Blk ww99 (w.heap.size) 25 #[.int .u64 S, .int .i64 H, .slice A n cap]) := KB_bx_2.out.since b9
    clear BEL2 FA_a_2 KB_bx_2
    clear b9
    go_wp2_with fail
    go_ret
    exact ⟨rfl, BEL3.out⟩
  have hR := (fitsB_iff _ _).1 hf
  obtain ⟨N, rfl⟩ : ∃ N : Nat, H = N := ⟨H.toNat, by omega⟩
  have n1 : 1 ≤ n := by omega
  have n2 : n ≤ 256 := by omega
  have N1 : 1 ≤ N := by omega
  have N2 : N ≤ 7 := by omega
  have HF : Hid (fitsB n (N : Int) = true) := hf
  have PC : Hid (∀ w1 x B, FilterAt w1 x S N n B → Calls Try.prog 17 #[x, .string s] w1 (GavePlaces w1 N (placeN S s n))) := fun w1 x B h => by
    have e := places_any w1 x S N n B s h uS (by omega)
    rw [kN_right hf] at e
    exact e
  have hs : s.size ≤ 100 := by omega
  have PL : Hid (∀ i, placeN S s n i < n) := fun i => placeN_lt S s n i n1
  clear hR hf
  have BEL0 : Hid (Below w.heap.size w w) := Below.refl _ _
  have FA_a_0 : Hid (FilterAt w (.agg #[.int .u64 S, .int .i64 (N : Int), .slice A n cap]) S (N : Int) n B) := hF
  clear hF q3 q4 hcap
  go_enter Try.func8, Try.ntmps8
  have BEL1 : Hid (Below w.heap.size w (w.alloc (.cells #[.int .u64 S, .int .i64 (N : Int), .slice A n cap] 25))) := bel_trans BEL0.out (bel_alloc _ _)
  have FA_a_1 : Hid (FilterAt (w.alloc (.cells #[.int .u64 S, .int .i64 (N : Int), .slice A n cap] 25)) (.agg #[.int .u64 S, .int .i64 (N : Int), .slice A n cap]) S (N : Int) n B) := FA_a_0.out.keep (keep_of_below (bel_alloc _ _))
  clear BEL0 FA_a_0
  have KB_bx_1 : Hid (Blk (w.alloc (.cells #[.int .u64 S, .int .i64 (N : Int), .slice A n cap] 25)) (w.heap.size) 25 #[.int .u64 S, .int .i64 (N : Int), .slice A n cap]) := Blk.new _ _ _
  go_wp2_with fail
  refine (right_any _ _ S (N : Int) n _ FA_a_1.out).mono ?_
  rintro e ww1 ⟨rfl, b1⟩
  have BEL2 : Hid (Below w.heap.size w ww1) := bel_trans BEL1.out b1
  have FA_a_2 : Hid (FilterAt ww1 (.agg #[.int .u64 S, .int .i64 (N : Int), .slice A n cap]) S (N : Int) n B) := FA_a_1.out.keep (keep_of_below b1)
  have KB_bx_2 : Hid (Blk ww1 (w.heap.size) 25 #[.int .u64 S, .int .i64 (N : Int), .slice A n cap]) := KB_bx_1.out.since b1
  clear BEL1 FA_a_1 KB_bx_1
  clear b1
  rw [HF.out]
  have CE_bx_0 : ww1.cell? ⟨w.heap.size, 0, none⟩ = some (.int .u64 S) := KB_bx_2.out.cell 0
  have CE_bx_1 : ww1.cell? ⟨w.heap.size, 1, none⟩ = some (.int .i64 (N : Int)) := KB_bx_2.out.cell 1
  have CE_bx_2 : ww1.cell? ⟨w.heap.size, 2, none⟩ = some (.slice A n cap) := KB_bx_2.out.cell 2
  have CE_bx_lt : w.heap.size < ww1.heap.size := KB_bx_2.out.lt
  go_wp2_with fail
  refine (PC.out _ _ _ FA_a_2.out).mono ?_
  rintro e ww2 ⟨vp, rfl, hp, b2⟩
  clear CE_bx_0 CE_bx_1 CE_bx_2 CE_bx_lt
  have BEL3 : Hid (Below w.heap.size w ww2) := bel_trans BEL2.out b2
  have FA_a_3 : Hid (FilterAt ww2 (.agg #[.int .u64 S, .int .i64 (N : Int), .slice A n cap]) S (N : Int) n B) := FA_a_2.out.keep (keep_of_below b2)
  have KB_bx_3 : Hid (Blk ww2 (w.heap.size) 25 #[.int .u64 S, .int .i64 (N : Int), .slice A n cap]) := KB_bx_2.out.since b2
  clear BEL2 FA_a_2 KB_bx_2
  clear b2
  have EX_p_3 : Hid (PlacesAt ww2 vp N (placeN S s n)) := hp
  obtain ⟨Ap, capp, bp, op, rfl, hx1, hx2, hx3⟩ := hp
  obtain rfl := hx2 (by omega)
  clear hx1 hx2 hx3
  have CE_bx_0 : ww2.cell? ⟨w.heap.size, 0, none⟩ = some (.int .u64 S) := KB_bx_3.out.cell 0
  have CE_bx_1 : ww2.cell? ⟨w.heap.size, 1, none⟩ = some (.int .i64 (N : Int)) := KB_bx_3.out.cell 1
  have CE_bx_2 : ww2.cell? ⟨w.heap.size, 2, none⟩ = some (.slice A n cap) := KB_bx_3.out.cell 2
  have CE_bx_lt : w.heap.size < ww2.heap.size := KB_bx_3.out.lt
  go_wp2_with fail
  refine (add_any _ _ S (N : Int) n _ s FA_a_3.out uS (by omega) (by omega)).mono ?_
  rintro e ww3 ⟨xg, rfl, f3, b3⟩
  clear CE_bx_0 CE_bx_1 CE_bx_2 CE_bx_lt
  have BEL4 : Hid (Below w.heap.size w ww3) := bel_trans BEL3.out b3
  have FA_a_4 : Hid (FilterAt ww3 (.agg #[.int .u64 S, .int .i64 (N : Int), .slice A n cap]) S (N : Int) n B) := FA_a_3.out.keep (keep_of_below b3)
  have KB_bx_4 : Hid (Blk ww3 (w.heap.size) 25 #[.int .u64 S, .int .i64 (N : Int), .slice A n cap]) := KB_bx_3.out.since b3
  have EX_p_4 : Hid (PlacesAt ww3 (.slice (some ⟨bp, op, none⟩) N capp) N (placeN S s n)) := EX_p_3.out.keep (keep_of_below b3)
  clear BEL3 FA_a_3 KB_bx_3 EX_p_3
  clear b3
  have FA_g_4 : Hid (FilterAt ww3 (xg) S (N : Int) n (addB S N n B s)) := f3
  go_wp2_with fail
  refine (PC.out _ _ _ FA_g_4.out).mono ?_
  rintro e ww4 ⟨vq, rfl, hq, b4⟩
  have BEL5 : Hid (Below w.heap.size w ww4) := bel_trans BEL4.out b4
  have FA_a_5 : Hid (FilterAt ww4 (.agg #[.int .u64 S, .int .i64 (N : Int), .slice A n cap]) S (N : Int) n B) := FA_a_4.out.keep (keep_of_below b4)
  have FA_g_5 : Hid (FilterAt ww4 (xg) S (N : Int) n (addB S N n B s)) := FA_g_4.out.keep (keep_of_below b4)
  have KB_bx_5 : Hid (Blk ww4 (w.heap.size) 25 #[.int .u64 S, .int .i64 (N : Int), .slice A n cap]) := KB_bx_4.out.since b4
  have EX_p_5 : Hid (PlacesAt ww4 (.slice (some ⟨bp, op, none⟩) N capp) N (placeN S s n)) := EX_p_4.out.keep (keep_of_below b4)
  clear BEL4 FA_a_4 FA_g_4 KB_bx_4 EX_p_4
  clear b4
  have EX_q_5 : Hid (PlacesAt ww4 vq N (placeN S s n)) := hq
  obtain ⟨Aq, capq, bq2, oq2, rfl, hx1, hx2, hx3⟩ := hq
  obtain rfl := hx2 (by omega)
  clear hx1 hx2 hx3
  clear FA_g_5
  clear FA_a_5
  have CE_bx_0 : ww4.cell? ⟨w.heap.size, 0, none⟩ = some (.int .u64 S) := KB_bx_5.out.cell 0
  have CE_bx_1 : ww4.cell? ⟨w.heap.size, 1, none⟩ = some (.int .i64 (N : Int)) := KB_bx_5.out.cell 1
  have CE_bx_2 : ww4.cell? ⟨w.heap.size, 2, none⟩ = some (.slice A n cap) := KB_bx_5.out.cell 2
  have CE_bx_lt : w.heap.size < ww4.heap.size := KB_bx_5.out.lt
  have P4 : Hid (∀ i, i < N → ww4.cell? ⟨bp, op + i, none⟩ = some (.int .i64 (placeN S s n i : Int))) := by
    obtain ⟨A1, cap1, b1, o1, e1, e2, e3, e4⟩ := EX_p_5.out
    cases e1
    cases e3 (by omega)
    exact e4
  have Q4 : Hid (∀ i, i < N → ww4.cell? ⟨bq2, oq2 + i, none⟩ = some (.int .i64 (placeN S s n i : Int))) := by
    obtain ⟨A1, cap1, b1, o1, e1, e2, e3, e4⟩ := EX_q_5.out
    cases e1
    cases e3 (by omega)
    exact e4
  clear EX_p_5
  clear EX_q_5
  go_wp2_with fail
  clear CE_bx_0 CE_bx_1 CE_bx_2 CE_bx_lt
  go_loopg [45] N (fun gk i wr => ∃ k : Nat, (gk = N - k ∧ k ≤ N ∧ Below ww4.heap.size ww4 wr) ∧ i = .int .i64 (k : Int))
  case atStart => exact ⟨0, ⟨rfl, by omega, Below.refl _ _⟩, rfl⟩
  case round =>
    obtain ⟨k, ⟨hg, hk, hb⟩, rfl⟩ := hrel
    have HK : Hid (gk = N - k ∧ Below ww4.heap.size ww4 wr) := ⟨hg, hb⟩
    have BK := KB_bx_5.out.since hb
    have x1 : wr.cell? ⟨w.heap.size, 1, none⟩ = some (.int .i64 (N : Int)) := BK.cell 1
    have x2 : wr.cell? ⟨w.heap.size, 2, none⟩ = some (.slice A n cap) := BK.cell 2
    by_cases hlt : k < N
    · have c1 := keep_of_below hb _ _ (P4.out k hlt)
      have c2 := keep_of_below hb _ _ (Q4.out k hlt)
      have p1 := PL.out k
      have b1 : (k : Int) < (N : Int) := by omega
      generalize placeN S s n k = P at c1 c2 p1
      have p2 : ¬ (P : Int) < 0 := by omega
      have p3 : (P : Int) < (n : Int) := by omega
      have p4 : ¬ (n : Int) ≤ (P : Int) := by omega
      clear hg hb BK
      go_wp2_with fail
      go_quiet (fail)
      go_wp2_with fail
      go_roundg (N - (k + 1))
      case measure => have := HK.out.1; omega
      case rel => exact ⟨k + 1, ⟨rfl, by omega, below_drewN HK.out.2 _⟩, by go_num⟩
    · have b1 : ¬ (k : Int) < (N : Int) := by omega
      clear hg hb BK
      go_wp2_with fail
      refine (awake_any _).mono ?_
      rintro e ww9 ⟨rfl, b9⟩
      go_wp2_with fail
      go_ret
      exact ⟨rfl, bel_trans (bel_trans BEL5.out HK.out.2) b9⟩

/-! ### The row -/
theorem laidOut : laidOutB Try.prog = true := by kernel_rfl
set_option maxRecDepth 100000 in
theorem lifted (os : Os) (started : os.Started) (H : Type) (enc : TypeId × Value → H) :
    ReturnsInHanded {} Try.checked os 8 .any (Rows.bloomPlacesSpec.pre6 enc Try.prog Try.f8 Rows.bloomPlacesRow.domain false) (Rows.bloomPlacesSpec.post enc Try.prog Try.f8 false true false false) := by
  refine returnsInHanded_of_change (C := Try.checked) own started (by kernel_rfl) Try.func8
    (ChangeSpec.witness6 (enc := enc) (C := Try.checked) false ⟨#[], #[.agg #[.int .u64 0, .int .i64 0, .slice none 0 0], .string ⟨#[]⟩], []⟩ 8 (by kernel_rfl) (by kernel_rfl) (by kernel_rfl) (by kernel_rfl)) ?_
  intro W base args ds gs before hval0 hW hcnd _
  have hval : ∀ (j : Nat) t v, Try.f8.params[j]? = some t → args[j]? = some v → Value.okWide Try.prog W .any base t v := hval0
  have hW' := hW
  obtain ⟨p, q, hA0, hV, rfl, hfz, hnd⟩ := hW
  have hA : DataW.TrodAll enc Try.prog W 0 (fun _ => true) true Try.f8.params.toList args.toList ds p := hA0
  rw [Try.params8] at hA hval
  obtain ⟨v0, vs0, d0, ds0, p0, q0, hargs, rfl, rfl, h0, r0⟩ := trodAll_cons hA
  obtain ⟨v1, vs1, d1, ds1, p1, q1, rfl, rfl, rfl, h1, r1⟩ := trodAll_cons r0
  obtain ⟨rfl, rfl, rfl⟩ := trodAll_nil r1
  obtain rfl : args = #[v0, v1] := by cases args; simp_all
  obtain ⟨rfl, rfl⟩ := trodVars_none hV
  have k0 := h0
  have lt0 : ∀ x ∈ p0, x.block < W.heap.size := by obtain ⟨m, hm⟩ := k0; exact DataW.trod_lt m _ _ _ hm
  obtain ⟨F0, w0⟩ := open_filter (hval 0 25 v0 rfl rfl) h0
  obtain ⟨a1, rfl, rfl, rfl, w1⟩ := open_string Try.underlying9 (hval 1 9 v1 rfl rfl) h1
  clear hA0 hval0
  refine (walk v0 F0 a1 W w0 w1).mono fun e W' ⟨he, bel⟩ => ?_
  subst he
  exact ⟨_, rfl, _, _, _, [], _, [], hW', trodAll_mk1 (shut_bool Try.underlying4 _), (trodAll_cons_mk (Below.trod laidOut (by kernel_rfl) (of_decide_eq_true (by kernel_rfl)) k0 bel lt0) (trodAll_cons_mk (shut_string Try.underlying9 w1) trodAll_mk0)), rfl, bel.frame _, fun h => by cases h⟩

theorem over : Rows.bloomPlacesRow.holds Try.pinned (OpenSpec.ofChange Rows.bloomPlacesSpec) :=
  OpenClaim.holds_of_wide 8 Try.f8 rfl rfl rfl rfl rfl rfl rfl ⟨rfl, rfl, rfl, rfl, rfl⟩ rfl rfl rfl rfl rfl (by kernel_rfl) Try.func8 (by kernel_rfl)
    (of_decide_eq_true (by kernel_rfl)) (by unfold Func.isWrapper; first | (rw [if_pos (by decide +kernel)]; kernel_rfl) | (rw [if_neg (by decide +kernel)]; exact ⟨rfl, rfl⟩))
    (fun os started H enc _ => lifted os started H enc)

theorem proved : Rows.BloomPlacesSaid := over
end Go.Proofs.Ytbnjicbmainopaa.bloomPlaces
namespace Go.Proofs.Ytbnjicbmainopaa
theorem bloomPlaces_holds : Rows.BloomPlacesSaid := bloomPlaces.proved
#print axioms bloomPlaces_holds
end Go.Proofs.Ytbnjicbmainopaa
