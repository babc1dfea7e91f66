
/-
  BloomTurns: whatever a filter is, its places of any key, what it is with it, and whether it has it, are what the document says. No condition.
-/
import Derived.Test.YtbnjicbmainopaaRows
import Derived.Test.YtbnjicbmainopaaBlmAwake
import Derived.Test.YtbnjicbmainopaaBlmRef
import Derived.WalkKit
import Derived.ProofKit
import Derived.OpenShut
import Derived.ShutString
import Derived.ChangeOld
import Derived.ChangeMaps5
import Derived.Below
import Derived.Carry
import Derived.Laws.StructEq
import Derived.BigQuiet
import Derived.Deep.Cut
import Derived.Deep.CutRange
import Derived.Deep.RegionHeld
namespace Go.Proofs.Ytbnjicbmainopaa.bloomTurns
open Fm Bl L2 Go.Deep
open Go.ChangeShapes Go.WideShapes Go.ChangeAt Go.RowKit Go.ChangeMaps
set_option linter.unusedVariables false

theorem own : ownKnob Try.prog.godebug = none := by kernel_rfl

/-- A filter stands where a box of other values is written. -/
theorem filter_put {w : World} {X : Nat} {t : TypeId} {S' H' : Int} {A : Option Addr} {m cap : Nat} {x : Value} {S H : Int} {n : Nat} {B : Nat → Bool} (h : FilterAt w x S H n B) (hX : Blk w X t #[.int .u64 S', .int .i64 H', .slice A m cap]) (a b c : Value) : FilterAt (put3 w X a b c) x S H n B := by
  obtain ⟨v, h1, h2⟩ := h
  exact ⟨v, h1, bools_put3 hX h2 a b c⟩
/-- Places in a block that is known. -/
structure PlIn (w : World) (b o K : Nat) (p : Nat → Nat) : Prop where
  cell : ∀ i, i < K → w.cell? ⟨b, o + i, none⟩ = some (.int .i64 (p i : Int))
theorem PlIn.keep {w w' : World} {b o K : Nat} {p : Nat → Nat} (h : PlIn w b o K p) (k : Keep w w') : PlIn w' b o K p := ⟨fun i hi => k _ _ (h.cell i hi)⟩
theorem plin_put {w : World} {b o K X : Nat} {p : Nat → Nat} (h : PlIn w b o K p) (ne : b ≠ X) (x y z : Value) : PlIn (put3 w X x y z) b o K p := ⟨fun i hi => by
  unfold put3
  rw [World.cell?_setCell_other _ _ _ _ (fun e => ne (congrArg Addr.block e).symm), World.cell?_setCell_other _ _ _ _ (fun e => ne (congrArg Addr.block e).symm), World.cell?_setCell_other _ _ _ _ (fun e => ne (congrArg Addr.block e).symm)]
  exact h.cell i hi⟩
theorem plin_ne {w : World} {b o K : Nat} {p : Nat → Nat} (h : PlIn w b o K p) (hK : 0 < K) : b ≠ w.heap.size := by
  have := World.block_lt_of_cell? w _ (h.cell 0 hK)
  exact Nat.ne_of_lt this
theorem addB_wrong {S H : Int} {n : Nat} {B : Nat → Bool} {s : ByteArray} (h : fitsB n H = false) : addB S H n B s = B := by
  unfold addB
  rw [kN_wrong h]
  rfl
/-- What stands behind the first statements. -/
structure TurnIn (w wx : World) (gx gg : Nat) (S H : Int) (n : Nat) (A : Option Addr) (cap : Nat) (Ag : Option Addr) (cg : Nat) (C : Nat → Bool) : Prop where
  since : Below w.heap.size w wx
  bx : Blk wx w.heap.size 25 #[.int .u64 S, .int .i64 H, .slice A n cap]
  xx : Blk wx gx 30 #[.int .u64 S, .int .i64 H, .slice A n cap]
  gx : Blk wx gg 25 #[.int .u64 S, .int .i64 H, .slice Ag n cg]
  fg : FilterAt wx (.agg #[.int .u64 S, .int .i64 H, .slice Ag n cg]) S H n C

set_option maxRecDepth 8000 in
set_option maxHeartbeats 6400000 in
theorem walk (v0 : Value) (F0 : Flt) (s : ByteArray) (w : World) (h0 : FilterIn w v0 F0) (ws : s.size ≤ 9223372036854775807) :
    Calls Try.prog 4 #[v0, .string s] w fun e w' => e = .returned (.bool true) ∧ Below w.heap.size w w' := by
  obtain ⟨S, H, n, B⟩ := F0
  obtain ⟨hF, uS, iH⟩ := h0
  simp only at hF uS iH
  obtain ⟨v, rfl, A, cap, bq, oq, rfl, hcap, q3, q4⟩ := id hF
  by_cases c0 : 300 < n
  · have BEL0 : Hid (Below w.heap.size w w) := Below.refl _ _
    have FA_a_0 : Hid (FilterAt w (.agg #[.int .u64 S, .int .i64 H, .slice A n cap]) S H n B) := hF
    clear hF q3 q4 hcap
    go_enter Try.func4, Try.ntmps4
    have BEL1 : Hid (Below w.heap.size w (w.alloc (.cells #[.int .u64 S, .int .i64 H, .slice A n cap] 25))) := bel_trans BEL0.out (bel_alloc _ _)
    have FA_a_1 : Hid (FilterAt (w.alloc (.cells #[.int .u64 S, .int .i64 H, .slice A n cap] 25)) (.agg #[.int .u64 S, .int .i64 H, .slice A n cap]) S H n B) := FA_a_0.out.keep (keep_of_below (bel_alloc _ _))
    clear BEL0 FA_a_0
    have KB_bx_1 : Hid (Blk (w.alloc (.cells #[.int .u64 S, .int .i64 H, .slice A n cap] 25)) (w.heap.size) 25 #[.int .u64 S, .int .i64 H, .slice A n cap]) := Blk.new _ _ _
    have CE_bx_0 : ((w.alloc (.cells #[.int .u64 S, .int .i64 H, .slice A n cap] 25))).cell? ⟨w.heap.size, 0, none⟩ = some (.int .u64 S) := KB_bx_1.out.cell 0
    have CE_bx_1 : ((w.alloc (.cells #[.int .u64 S, .int .i64 H, .slice A n cap] 25))).cell? ⟨w.heap.size, 1, none⟩ = some (.int .i64 H) := KB_bx_1.out.cell 1
    have CE_bx_2 : ((w.alloc (.cells #[.int .u64 S, .int .i64 H, .slice A n cap] 25))).cell? ⟨w.heap.size, 2, none⟩ = some (.slice A n cap) := KB_bx_1.out.cell 2
    have CE_bx_lt : w.heap.size < ((w.alloc (.cells #[.int .u64 S, .int .i64 H, .slice A n cap] 25))).heap.size := KB_bx_1.out.lt
    go_wp2_with fail
    refine (awake_any _).mono ?_
    rintro e ww99 ⟨rfl, b9⟩
    clear CE_bx_0 CE_bx_1 CE_bx_2 CE_bx_lt
    have BEL2 : Hid (Below w.heap.size w ww99) := bel_trans BEL1.out b9
    have FA_a_2 : Hid (FilterAt ww99 (.agg #[.int .u64 S, .int .i64 H, .slice A n cap]) S H n B) := FA_a_1.out.keep (keep_of_below b9)
    have KB_bx_2 : Hid (Blk ww99 (w.heap.size) 25 #[.int .u64 S, .int .i64 H, .slice A n cap]) := KB_bx_1.out.since b9
    clear BEL1 FA_a_1 KB_bx_1
    clear b9
    go_wp2_with fail
    go_ret
    exact ⟨rfl, BEL2.out⟩
  by_cases c1 : 100 < s.size
  · have BEL0 : Hid (Below w.heap.size w w) := Below.refl _ _
    have FA_a_0 : Hid (FilterAt w (.agg #[.int .u64 S, .int .i64 H, .slice A n cap]) S H n B) := hF
    clear hF q3 q4 hcap
    go_enter Try.func4, Try.ntmps4
    have BEL1 : Hid (Below w.heap.size w (w.alloc (.cells #[.int .u64 S, .int .i64 H, .slice A n cap] 25))) := bel_trans BEL0.out (bel_alloc _ _)
    have FA_a_1 : Hid (FilterAt (w.alloc (.cells #[.int .u64 S, .int .i64 H, .slice A n cap] 25)) (.agg #[.int .u64 S, .int .i64 H, .slice A n cap]) S H n B) := FA_a_0.out.keep (keep_of_below (bel_alloc _ _))
    clear BEL0 FA_a_0
    have KB_bx_1 : Hid (Blk (w.alloc (.cells #[.int .u64 S, .int .i64 H, .slice A n cap] 25)) (w.heap.size) 25 #[.int .u64 S, .int .i64 H, .slice A n cap]) := Blk.new _ _ _
    have CE_bx_0 : ((w.alloc (.cells #[.int .u64 S, .int .i64 H, .slice A n cap] 25))).cell? ⟨w.heap.size, 0, none⟩ = some (.int .u64 S) := KB_bx_1.out.cell 0
    have CE_bx_1 : ((w.alloc (.cells #[.int .u64 S, .int .i64 H, .slice A n cap] 25))).cell? ⟨w.heap.size, 1, none⟩ = some (.int .i64 H) := KB_bx_1.out.cell 1
    have CE_bx_2 : ((w.alloc (.cells #[.int .u64 S, .int .i64 H, .slice A n cap] 25))).cell? ⟨w.heap.size, 2, none⟩ = some (.slice A n cap) := KB_bx_1.out.cell 2
    have CE_bx_lt : w.heap.size < ((w.alloc (.cells #[.int .u64 S, .int .i64 H, .slice A n cap] 25))).heap.size := KB_bx_1.out.lt
    go_wp2_with fail
    refine (awake_any _).mono ?_
    rintro e ww99 ⟨rfl, b9⟩
    clear CE_bx_0 CE_bx_1 CE_bx_2 CE_bx_lt
    have BEL2 : Hid (Below w.heap.size w ww99) := bel_trans BEL1.out b9
    have FA_a_2 : Hid (FilterAt ww99 (.agg #[.int .u64 S, .int .i64 H, .slice A n cap]) S H n B) := FA_a_1.out.keep (keep_of_below b9)
    have KB_bx_2 : Hid (Blk ww99 (w.heap.size) 25 #[.int .u64 S, .int .i64 H, .slice A n cap]) := KB_bx_1.out.since b9
    clear BEL1 FA_a_1 KB_bx_1
    clear b9
    go_wp2_with fail
    go_ret
    exact ⟨rfl, BEL2.out⟩
  by_cases c2 : 100 < H
  · have BEL0 : Hid (Below w.heap.size w w) := Below.refl _ _
    have FA_a_0 : Hid (FilterAt w (.agg #[.int .u64 S, .int .i64 H, .slice A n cap]) S H n B) := hF
    clear hF q3 q4 hcap
    go_enter Try.func4, Try.ntmps4
    have BEL1 : Hid (Below w.heap.size w (w.alloc (.cells #[.int .u64 S, .int .i64 H, .slice A n cap] 25))) := bel_trans BEL0.out (bel_alloc _ _)
    have FA_a_1 : Hid (FilterAt (w.alloc (.cells #[.int .u64 S, .int .i64 H, .slice A n cap] 25)) (.agg #[.int .u64 S, .int .i64 H, .slice A n cap]) S H n B) := FA_a_0.out.keep (keep_of_below (bel_alloc _ _))
    clear BEL0 FA_a_0
    have KB_bx_1 : Hid (Blk (w.alloc (.cells #[.int .u64 S, .int .i64 H, .slice A n cap] 25)) (w.heap.size) 25 #[.int .u64 S, .int .i64 H, .slice A n cap]) := Blk.new _ _ _
    have CE_bx_0 : ((w.alloc (.cells #[.int .u64 S, .int .i64 H, .slice A n cap] 25))).cell? ⟨w.heap.size, 0, none⟩ = some (.int .u64 S) := KB_bx_1.out.cell 0
    have CE_bx_1 : ((w.alloc (.cells #[.int .u64 S, .int .i64 H, .slice A n cap] 25))).cell? ⟨w.heap.size, 1, none⟩ = some (.int .i64 H) := KB_bx_1.out.cell 1
    have CE_bx_2 : ((w.alloc (.cells #[.int .u64 S, .int .i64 H, .slice A n cap] 25))).cell? ⟨w.heap.size, 2, none⟩ = some (.slice A n cap) := KB_bx_1.out.cell 2
    have CE_bx_lt : w.heap.size < ((w.alloc (.cells #[.int .u64 S, .int .i64 H, .slice A n cap] 25))).heap.size := KB_bx_1.out.lt
    go_wp2_with fail
    refine (awake_any _).mono ?_
    rintro e ww99 ⟨rfl, b9⟩
    clear CE_bx_0 CE_bx_1 CE_bx_2 CE_bx_lt
    have BEL2 : Hid (Below w.heap.size w ww99) := bel_trans BEL1.out b9
    have FA_a_2 : Hid (FilterAt ww99 (.agg #[.int .u64 S, .int .i64 H, .slice A n cap]) S H n B) := FA_a_1.out.keep (keep_of_below b9)
    have KB_bx_2 : Hid (Blk ww99 (w.heap.size) 25 #[.int .u64 S, .int .i64 H, .slice A n cap]) := KB_bx_1.out.since b9
    clear BEL1 FA_a_1 KB_bx_1
    clear b9
    go_wp2_with fail
    go_ret
    exact ⟨rfl, BEL2.out⟩
  have BA : Hid (FilterAt w (.agg #[.int .u64 S, .int .i64 H, .slice A n cap]) S H n B) := hF
  have Q3 : Hid (0 < n → A = some ⟨bq, oq, none⟩) := q3
  have Q4 : Hid (∀ i, i < n → w.cell? ⟨bq, oq + i, none⟩ = some (.bool (B i))) := q4
  have I1 := iH.1
  have I2 := iH.2
  by_cases hf : fitsB n H = true
  rotate_left
  · have hff : fitsB n H = false := by simpa using hf
    have HF : Hid (fitsB n H = false) := hff
    have KE : Hid (kN n H = 0) := kN_wrong hff
    clear hf hff
    have hs : s.size ≤ 100 := by omega
    have hn : n ≤ 300 := by omega
    have BEL0 : Hid (Below w.heap.size w w) := Below.refl _ _
    clear hF q3 q4 hcap iH
    go_enter Try.func4, Try.ntmps4
    have BEL1 : Hid (Below w.heap.size w (w.alloc (.cells #[.int .u64 S, .int .i64 H, .slice A n cap] 25))) := bel_trans BEL0.out (bel_alloc _ _)
    clear BEL0
    have KB_bx_1 : Hid (Blk (w.alloc (.cells #[.int .u64 S, .int .i64 H, .slice A n cap] 25)) (w.heap.size) 25 #[.int .u64 S, .int .i64 H, .slice A n cap]) := Blk.new _ _ _
    have CE_bx_0 : ((w.alloc (.cells #[.int .u64 S, .int .i64 H, .slice A n cap] 25))).cell? ⟨w.heap.size, 0, none⟩ = some (.int .u64 S) := KB_bx_1.out.cell 0
    have CE_bx_1 : ((w.alloc (.cells #[.int .u64 S, .int .i64 H, .slice A n cap] 25))).cell? ⟨w.heap.size, 1, none⟩ = some (.int .i64 H) := KB_bx_1.out.cell 1
    have CE_bx_2 : ((w.alloc (.cells #[.int .u64 S, .int .i64 H, .slice A n cap] 25))).cell? ⟨w.heap.size, 2, none⟩ = some (.slice A n cap) := KB_bx_1.out.cell 2
    have CE_bx_lt : w.heap.size < ((w.alloc (.cells #[.int .u64 S, .int .i64 H, .slice A n cap] 25))).heap.size := KB_bx_1.out.lt
    go_wp2_with fail
    refine (ref_any _ _ S H n _ (BA.out.keep (keep_of_below BEL1.out))).mono ?_
    rintro e ww1 ⟨rfl, b1⟩
    clear CE_bx_0 CE_bx_1 CE_bx_2 CE_bx_lt
    have BEL2 : Hid (Below w.heap.size w ww1) := bel_trans BEL1.out b1
    have KB_bx_2 : Hid (Blk ww1 (w.heap.size) 25 #[.int .u64 S, .int .i64 H, .slice A n cap]) := KB_bx_1.out.since b1
    clear BEL1 KB_bx_1
    clear b1
    go_upto_region 4 with fail
    have NXB : Hid (w.heap.size ≠ ww1.heap.size) := Nat.ne_of_lt KB_bx_2.out.lt
    have BEL3 : Hid (Below w.heap.size w (ww1.alloc (.cells #[.int .u64 S, .int .i64 H, .slice A n cap] 30))) := bel_trans BEL2.out (bel_alloc _ _)
    have KB_bx_3 : Hid (Blk (ww1.alloc (.cells #[.int .u64 S, .int .i64 H, .slice A n cap] 30)) (w.heap.size) 25 #[.int .u64 S, .int .i64 H, .slice A n cap]) := KB_bx_2.out.since (bel_alloc _ _)
    clear BEL2 KB_bx_2
    have KB_x_3 : Hid (Blk (ww1.alloc (.cells #[.int .u64 S, .int .i64 H, .slice A n cap] 30)) (ww1.heap.size) 30 #[.int .u64 S, .int .i64 H, .slice A n cap]) := Blk.new _ _ _
    generalize (ww1.alloc (.cells #[.int .u64 S, .int .i64 H, .slice A n cap] 30)) = u1 at BEL3 KB_bx_3 KB_x_3 ⊢
    generalize ww1.heap.size = gx at NXB KB_x_3 ⊢
    go_cut [6, 7] from 13 (fun s6 s7 wx => ∃ gg Ag cg Ap cp, (s6 = .pointer (some ⟨gg, 0, none⟩) ∧ s7 = .slice Ap 0 cp) ∧ TurnIn w wx gx gg S H n A cap Ag cg (addB S H n B s))
    case first =>
      refine wp_region_noPanic ?_
      have BEL4 : Hid (Below w.heap.size w u1.drew) := bel_trans BEL3.out ((Below.refl _ _).drew)
      have KB_bx_4 : Hid (Blk u1.drew (w.heap.size) 25 #[.int .u64 S, .int .i64 H, .slice A n cap]) := KB_bx_3.out.since ((Below.refl _ _).drew)
      have KB_x_4 : Hid (Blk u1.drew (gx) 30 #[.int .u64 S, .int .i64 H, .slice A n cap]) := KB_x_3.out.since ((Below.refl _ _).drew)
      clear BEL3 KB_bx_3 KB_x_3
      refine wp_region_held_drew (S := (fun w' => Blk w' (w.heap.size) 25 #[.int .u64 S, .int .i64 H, .slice A n cap])) (by kernel_rfl) KB_bx_4.out (fun hHeld => ?_)
      clear hHeld
      generalize u1.drew = v1 at BEL4 KB_bx_4 KB_x_4 ⊢
      refine wpAnyH_take (i := 0) (v := ?_) rfl (by kernel_rfl) (by kernel_rfl) (by kernel_rfl) (fun _ _ _ h => h) (Or.inl ⟨by rfl, ?_⟩) KB_bx_4.out ?_
      rotate_left
      · intro w hSw; have cl0 := hSw.cell 0; have cl1 := hSw.cell 1; have cl2 := hSw.cell 2; go_simp; first | done | with_reducible rfl
      simp only [List.getElem_toArray, List.getElem_cons_zero, Act.put, List.setIfInBounds_toArray, List.set_cons_zero, List.set_cons_succ]
      refine wpAnyH_take (i := 1) (v := ?_) rfl (by kernel_rfl) (by kernel_rfl) (by kernel_rfl) (fun _ _ _ h => h) (Or.inl ⟨by rfl, ?_⟩) KB_bx_4.out ?_
      rotate_left
      · intro w hSw; go_simp; first | done | with_reducible rfl
      simp only [List.getElem_toArray, List.getElem_cons_zero, List.getElem_cons_succ, Act.put, List.setIfInBounds_toArray, List.set_cons_zero, List.set_cons_succ]
      refine wpAnyH_take (i := 3) (v := ?_) rfl (by kernel_rfl) (by kernel_rfl) (by kernel_rfl) (fun _ _ _ h => h) (Or.inl ⟨by rfl, ?_⟩) KB_bx_4.out ?_
      rotate_left
      · intro w hSw; have cl0 := hSw.cell 0; have cl1 := hSw.cell 1; have cl2 := hSw.cell 2; go_simp; first | done | with_reducible rfl
      simp only [List.getElem_toArray, List.getElem_cons_zero, List.getElem_cons_succ, Act.put, List.setIfInBounds_toArray, List.set_cons_zero, List.set_cons_succ]
      refine wpAnyH_take (i := 4) (v := ?_) rfl (by kernel_rfl) (by kernel_rfl) (by kernel_rfl) (fun _ _ _ h => h) (Or.inl ⟨by rfl, ?_⟩) KB_bx_4.out ?_
      rotate_left
      · intro w hSw; go_simp; first | done | with_reducible rfl
      simp only [List.getElem_toArray, List.getElem_cons_zero, List.getElem_cons_succ, Act.put, List.setIfInBounds_toArray, List.set_cons_zero, List.set_cons_succ]
      refine wpAnyH_ready (rs := [2, 6]) (by kernel_rfl) (by simp) ?_
      refine AllReadyH.cons rfl (fun K hK => ?_) ?_
      · go_simp
        refine (add_any _ _ S H n _ s (BA.out.keep (keep_of_below BEL4.out)) uS (by omega) (by omega)).mono ?_
        rintro e qg ⟨xg, rfl, fg, bb⟩
        have BEL5 : Hid (Below w.heap.size w qg) := bel_trans BEL4.out bb
        have KB_bx_5 : Hid (Blk qg (w.heap.size) 25 #[.int .u64 S, .int .i64 H, .slice A n cap]) := KB_bx_4.out.since bb
        have KB_x_5 : Hid (Blk qg (gx) 30 #[.int .u64 S, .int .i64 H, .slice A n cap]) := KB_x_4.out.since bb
        clear BEL4 KB_bx_4 KB_x_4
        clear bb
        have FA_g_5 : Hid (FilterAt qg (xg) S H n (addB S H n B s)) := fg
        obtain ⟨vg, rfl, Ag, cg, bbg, oog, rfl, hx1, hx2, hx3⟩ := fg
        clear hx1 hx2 hx3
        go_wp2_with fail
        refine hK.out _ _ (by exact KB_bx_5.out) (fun hHeld => ?_)
        clear hK K hHeld
        refine wpAnyH_ready (rs := [5, 6]) (by kernel_rfl) (by simp) ?_
        refine AllReadyH.cons rfl (fun K hK => ?_) ?_
        · go_simp
          refine (places_made _ _ S H n _ s (BA.out.keep (keep_of_below BEL5.out)) uS (by omega)).mono ?_
          rintro e qp ⟨vp, rfl, hp, bb, fr⟩
          rw [KE.out] at hp fr
          obtain ⟨Ap, cp, bp, op, rfl, hx1, hx2, hx3⟩ := hp
          have BEL6 : Hid (Below w.heap.size w qp) := bel_trans BEL5.out bb
          have FA_g_6 : Hid (FilterAt qp (.agg #[.int .u64 S, .int .i64 H, .slice Ag n cg]) S H n (addB S H n B s)) := FA_g_5.out.keep (keep_of_below bb)
          have KB_bx_6 : Hid (Blk qp (w.heap.size) 25 #[.int .u64 S, .int .i64 H, .slice A n cap]) := KB_bx_5.out.since bb
          have KB_x_6 : Hid (Blk qp (gx) 30 #[.int .u64 S, .int .i64 H, .slice A n cap]) := KB_x_5.out.since bb
          clear BEL5 FA_g_5 KB_bx_5 KB_x_5
          clear bb fr hx1 hx2 hx3
          go_wp2_with fail
          refine hK.out _ _ (by exact KB_bx_6.out) (fun hHeld => ?_)
          clear hK K hHeld
          refine wpAnyH_ready (rs := [6]) (by kernel_rfl) (by simp) ?_
          refine AllReadyH.cons rfl (fun K hK => ?_) ?_
          · have GE_g : Hid (w.heap.size ≤ qp.heap.size) := BEL6.out.size
            have NE_bx_g : Hid (w.heap.size ≠ qp.heap.size) := Nat.ne_of_lt KB_bx_6.out.lt
            have NE_x_g : Hid (gx ≠ qp.heap.size) := Nat.ne_of_lt KB_x_6.out.lt
            have BEL7 : Hid (Below w.heap.size w (qp.alloc (.cells #[.int .u64 0, .int .i64 0, .slice none 0 0] 25))) := bel_trans BEL6.out (bel_alloc _ _)
            have FA_g_7 : Hid (FilterAt (qp.alloc (.cells #[.int .u64 0, .int .i64 0, .slice none 0 0] 25)) (.agg #[.int .u64 S, .int .i64 H, .slice Ag n cg]) S H n (addB S H n B s)) := FA_g_6.out.keep (keep_of_below (bel_alloc _ _))
            have KB_bx_7 : Hid (Blk (qp.alloc (.cells #[.int .u64 0, .int .i64 0, .slice none 0 0] 25)) (w.heap.size) 25 #[.int .u64 S, .int .i64 H, .slice A n cap]) := KB_bx_6.out.since (bel_alloc _ _)
            have KB_x_7 : Hid (Blk (qp.alloc (.cells #[.int .u64 0, .int .i64 0, .slice none 0 0] 25)) (gx) 30 #[.int .u64 S, .int .i64 H, .slice A n cap]) := KB_x_6.out.since (bel_alloc _ _)
            clear BEL6 FA_g_6 KB_bx_6 KB_x_6
            have KB_g_7 : Hid (Blk (qp.alloc (.cells #[.int .u64 0, .int .i64 0, .slice none 0 0] 25)) (qp.heap.size) 25 #[.int .u64 0, .int .i64 0, .slice none 0 0]) := Blk.new _ _ _
            go_simp
            generalize (qp.alloc (.cells #[.int .u64 0, .int .i64 0, .slice none 0 0] 25)) = v2 at BEL7 FA_g_7 KB_bx_7 KB_x_7 KB_g_7 ⊢
            generalize qp.heap.size = gg at GE_g KB_g_7 NE_bx_g NE_x_g ⊢
            refine hK.out _ _ (by exact KB_bx_7.out) (fun hHeld => ?_)
            clear hK K hHeld
            refine wpAnyH_ready (rs := [7]) (by kernel_rfl) (by simp) ?_
            refine AllReadyH.cons rfl (fun K hK => ?_) ?_
            rotate_left
            · exact AllReadyH.nil
            have cx0 : v2.cell? ⟨gg, 0, none⟩ = some (.int .u64 0) := KB_g_7.out.cell 0
            have cf0 := KB_g_7.out.frozen 0
            have cx1 : v2.cell? ⟨gg, 1, none⟩ = some (.int .i64 0) := KB_g_7.out.cell 1
            have cf1 := KB_g_7.out.frozen 1
            have cx2 : v2.cell? ⟨gg, 2, none⟩ = some (.slice none 0 0) := KB_g_7.out.cell 2
            have cf2 := KB_g_7.out.frozen 2
            go_simp
            clear cx0 cf0 cx1 cf1 cx2 cf2
            obtain ⟨v3, hvv3⟩ : ∃ q, q = (((v2.setCell ⟨gg, 0, none⟩ (.int .u64 S)).setCell ⟨gg, 1, none⟩ (.int .i64 H)).setCell ⟨gg, 2, none⟩ (.slice Ag n cg)) := ⟨_, rfl⟩
            rw [← hvv3]
            have BEL8 : Hid (Below w.heap.size w v3) := by rw [hvv3]; exact put3_below BEL7.out GE_g.out _ _ _
            have FA_g_8 : Hid (FilterAt v3 (.agg #[.int .u64 S, .int .i64 H, .slice Ag n cg]) S H n (addB S H n B s)) := by rw [hvv3]; exact filter_put FA_g_7.out KB_g_7.out _ _ _
            have KB_bx_8 : Hid (Blk v3 (w.heap.size) 25 #[.int .u64 S, .int .i64 H, .slice A n cap]) := by rw [hvv3]; exact put3_other KB_bx_7.out (by first | exact NE_bx_g.out | exact NE_g_bx.out.symm) _ _ _
            have KB_x_8 : Hid (Blk v3 (gx) 30 #[.int .u64 S, .int .i64 H, .slice A n cap]) := by rw [hvv3]; exact put3_other KB_x_7.out (by first | exact NE_x_g.out | exact NE_g_x.out.symm) _ _ _
            have KB_g_8 : Hid (Blk v3 (gg) 25 #[.int .u64 S, .int .i64 H, .slice Ag n cg]) := by rw [hvv3]; exact put3_blk KB_g_7.out _ _ _
            clear hvv3 BEL7 FA_g_7 KB_bx_7 KB_x_7 KB_g_7
            refine hK.out _ _ (by exact KB_bx_8.out) (fun hHeld => ?_)
            clear hK K hHeld
            refine wpAnyH_take (i := 8) (v := ?_) rfl (by kernel_rfl) (by kernel_rfl) (by kernel_rfl) (fun _ _ _ h => h) (Or.inl ⟨by rfl, ?_⟩) KB_bx_8.out ?_
            rotate_left
            · intro w hSw; go_simp; first | done | with_reducible rfl
            simp only [List.getElem_toArray, List.getElem_cons_zero, List.getElem_cons_succ, Act.put, List.setIfInBounds_toArray, List.set_cons_zero, List.set_cons_succ]
            refine wpAnyH_done (by kernel_rfl) ?_ _
            refine NoPanic.normal ?_
            go_wp2_with fail
            go_meet
            case rel => exact ⟨gg, Ag, cg, Ap, cp, ⟨rfl, rfl⟩, ⟨BEL8.out, KB_bx_8.out, KB_x_8.out, KB_g_8.out, FA_g_8.out⟩⟩
          exact AllReadyH.nil
        refine AllReadyH.cons rfl (fun K hK => ?_) ?_
        · have GE_g : Hid (w.heap.size ≤ qg.heap.size) := BEL5.out.size
          have NE_bx_g : Hid (w.heap.size ≠ qg.heap.size) := Nat.ne_of_lt KB_bx_5.out.lt
          have NE_x_g : Hid (gx ≠ qg.heap.size) := Nat.ne_of_lt KB_x_5.out.lt
          have BEL6 : Hid (Below w.heap.size w (qg.alloc (.cells #[.int .u64 0, .int .i64 0, .slice none 0 0] 25))) := bel_trans BEL5.out (bel_alloc _ _)
          have FA_g_6 : Hid (FilterAt (qg.alloc (.cells #[.int .u64 0, .int .i64 0, .slice none 0 0] 25)) (.agg #[.int .u64 S, .int .i64 H, .slice Ag n cg]) S H n (addB S H n B s)) := FA_g_5.out.keep (keep_of_below (bel_alloc _ _))
          have KB_bx_6 : Hid (Blk (qg.alloc (.cells #[.int .u64 0, .int .i64 0, .slice none 0 0] 25)) (w.heap.size) 25 #[.int .u64 S, .int .i64 H, .slice A n cap]) := KB_bx_5.out.since (bel_alloc _ _)
          have KB_x_6 : Hid (Blk (qg.alloc (.cells #[.int .u64 0, .int .i64 0, .slice none 0 0] 25)) (gx) 30 #[.int .u64 S, .int .i64 H, .slice A n cap]) := KB_x_5.out.since (bel_alloc _ _)
          clear BEL5 FA_g_5 KB_bx_5 KB_x_5
          have KB_g_6 : Hid (Blk (qg.alloc (.cells #[.int .u64 0, .int .i64 0, .slice none 0 0] 25)) (qg.heap.size) 25 #[.int .u64 0, .int .i64 0, .slice none 0 0]) := Blk.new _ _ _
          go_simp
          generalize (qg.alloc (.cells #[.int .u64 0, .int .i64 0, .slice none 0 0] 25)) = v4 at BEL6 FA_g_6 KB_bx_6 KB_x_6 KB_g_6 ⊢
          generalize qg.heap.size = gg at GE_g KB_g_6 NE_bx_g NE_x_g ⊢
          refine hK.out _ _ (by exact KB_bx_6.out) (fun hHeld => ?_)
          clear hK K hHeld
          refine wpAnyH_ready (rs := [5]) (by kernel_rfl) (by simp) ?_
          refine AllReadyH.cons rfl (fun K hK => ?_) ?_
          · go_simp
            refine (places_made _ _ S H n _ s (BA.out.keep (keep_of_below BEL6.out)) uS (by omega)).mono ?_
            rintro e qp ⟨vp, rfl, hp, bb, fr⟩
            rw [KE.out] at hp fr
            obtain ⟨Ap, cp, bp, op, rfl, hx1, hx2, hx3⟩ := hp
            have BEL7 : Hid (Below w.heap.size w qp) := bel_trans BEL6.out bb
            have FA_g_7 : Hid (FilterAt qp (.agg #[.int .u64 S, .int .i64 H, .slice Ag n cg]) S H n (addB S H n B s)) := FA_g_6.out.keep (keep_of_below bb)
            have KB_bx_7 : Hid (Blk qp (w.heap.size) 25 #[.int .u64 S, .int .i64 H, .slice A n cap]) := KB_bx_6.out.since bb
            have KB_x_7 : Hid (Blk qp (gx) 30 #[.int .u64 S, .int .i64 H, .slice A n cap]) := KB_x_6.out.since bb
            have KB_g_7 : Hid (Blk qp (gg) 25 #[.int .u64 0, .int .i64 0, .slice none 0 0]) := KB_g_6.out.since bb
            clear BEL6 FA_g_6 KB_bx_6 KB_x_6 KB_g_6
            clear bb fr hx1 hx2 hx3
            go_wp2_with fail
            refine hK.out _ _ (by exact KB_bx_7.out) (fun hHeld => ?_)
            clear hK K hHeld
            refine wpAnyH_ready (rs := [7]) (by kernel_rfl) (by simp) ?_
            refine AllReadyH.cons rfl (fun K hK => ?_) ?_
            rotate_left
            · exact AllReadyH.nil
            have cx0 : qp.cell? ⟨gg, 0, none⟩ = some (.int .u64 0) := KB_g_7.out.cell 0
            have cf0 := KB_g_7.out.frozen 0
            have cx1 : qp.cell? ⟨gg, 1, none⟩ = some (.int .i64 0) := KB_g_7.out.cell 1
            have cf1 := KB_g_7.out.frozen 1
            have cx2 : qp.cell? ⟨gg, 2, none⟩ = some (.slice none 0 0) := KB_g_7.out.cell 2
            have cf2 := KB_g_7.out.frozen 2
            go_simp
            clear cx0 cf0 cx1 cf1 cx2 cf2
            obtain ⟨v5, hvv5⟩ : ∃ q, q = (((qp.setCell ⟨gg, 0, none⟩ (.int .u64 S)).setCell ⟨gg, 1, none⟩ (.int .i64 H)).setCell ⟨gg, 2, none⟩ (.slice Ag n cg)) := ⟨_, rfl⟩
            rw [← hvv5]
            have BEL8 : Hid (Below w.heap.size w v5) := by rw [hvv5]; exact put3_below BEL7.out GE_g.out _ _ _
            have FA_g_8 : Hid (FilterAt v5 (.agg #[.int .u64 S, .int .i64 H, .slice Ag n cg]) S H n (addB S H n B s)) := by rw [hvv5]; exact filter_put FA_g_7.out KB_g_7.out _ _ _
            have KB_bx_8 : Hid (Blk v5 (w.heap.size) 25 #[.int .u64 S, .int .i64 H, .slice A n cap]) := by rw [hvv5]; exact put3_other KB_bx_7.out (by first | exact NE_bx_g.out | exact NE_g_bx.out.symm) _ _ _
            have KB_x_8 : Hid (Blk v5 (gx) 30 #[.int .u64 S, .int .i64 H, .slice A n cap]) := by rw [hvv5]; exact put3_other KB_x_7.out (by first | exact NE_x_g.out | exact NE_g_x.out.symm) _ _ _
            have KB_g_8 : Hid (Blk v5 (gg) 25 #[.int .u64 S, .int .i64 H, .slice Ag n cg]) := by rw [hvv5]; exact put3_blk KB_g_7.out _ _ _
            clear hvv5 BEL7 FA_g_7 KB_bx_7 KB_x_7 KB_g_7
            refine hK.out _ _ (by exact KB_bx_8.out) (fun hHeld => ?_)
            clear hK K hHeld
            refine wpAnyH_take (i := 8) (v := ?_) rfl (by kernel_rfl) (by kernel_rfl) (by kernel_rfl) (fun _ _ _ h => h) (Or.inl ⟨by rfl, ?_⟩) KB_bx_8.out ?_
            rotate_left
            · intro w hSw; go_simp; first | done | with_reducible rfl
            simp only [List.getElem_toArray, List.getElem_cons_zero, List.getElem_cons_succ, Act.put, List.setIfInBounds_toArray, List.set_cons_zero, List.set_cons_succ]
            refine wpAnyH_done (by kernel_rfl) ?_ _
            refine NoPanic.normal ?_
            go_wp2_with fail
            go_meet
            case rel => exact ⟨gg, Ag, cg, Ap, cp, ⟨rfl, rfl⟩, ⟨BEL8.out, KB_bx_8.out, KB_x_8.out, KB_g_8.out, FA_g_8.out⟩⟩
          exact AllReadyH.nil
        exact AllReadyH.nil
      refine AllReadyH.cons rfl (fun K hK => ?_) ?_
      · have GE_g : Hid (w.heap.size ≤ v1.heap.size) := BEL4.out.size
        have NE_bx_g : Hid (w.heap.size ≠ v1.heap.size) := Nat.ne_of_lt KB_bx_4.out.lt
        have NE_x_g : Hid (gx ≠ v1.heap.size) := Nat.ne_of_lt KB_x_4.out.lt
        have BEL5 : Hid (Below w.heap.size w (v1.alloc (.cells #[.int .u64 0, .int .i64 0, .slice none 0 0] 25))) := bel_trans BEL4.out (bel_alloc _ _)
        have KB_bx_5 : Hid (Blk (v1.alloc (.cells #[.int .u64 0, .int .i64 0, .slice none 0 0] 25)) (w.heap.size) 25 #[.int .u64 S, .int .i64 H, .slice A n cap]) := KB_bx_4.out.since (bel_alloc _ _)
        have KB_x_5 : Hid (Blk (v1.alloc (.cells #[.int .u64 0, .int .i64 0, .slice none 0 0] 25)) (gx) 30 #[.int .u64 S, .int .i64 H, .slice A n cap]) := KB_x_4.out.since (bel_alloc _ _)
        clear BEL4 KB_bx_4 KB_x_4
        have KB_g_5 : Hid (Blk (v1.alloc (.cells #[.int .u64 0, .int .i64 0, .slice none 0 0] 25)) (v1.heap.size) 25 #[.int .u64 0, .int .i64 0, .slice none 0 0]) := Blk.new _ _ _
        go_simp
        generalize (v1.alloc (.cells #[.int .u64 0, .int .i64 0, .slice none 0 0] 25)) = v6 at BEL5 KB_bx_5 KB_x_5 KB_g_5 ⊢
        generalize v1.heap.size = gg at GE_g KB_g_5 NE_bx_g NE_x_g ⊢
        refine hK.out _ _ (by exact KB_bx_5.out) (fun hHeld => ?_)
        clear hK K hHeld
        refine wpAnyH_ready (rs := [2]) (by kernel_rfl) (by simp) ?_
        refine AllReadyH.cons rfl (fun K hK => ?_) ?_
        · go_simp
          refine (add_any _ _ S H n _ s (BA.out.keep (keep_of_below BEL5.out)) uS (by omega) (by omega)).mono ?_
          rintro e qg ⟨xg, rfl, fg, bb⟩
          have BEL6 : Hid (Below w.heap.size w qg) := bel_trans BEL5.out bb
          have KB_bx_6 : Hid (Blk qg (w.heap.size) 25 #[.int .u64 S, .int .i64 H, .slice A n cap]) := KB_bx_5.out.since bb
          have KB_x_6 : Hid (Blk qg (gx) 30 #[.int .u64 S, .int .i64 H, .slice A n cap]) := KB_x_5.out.since bb
          have KB_g_6 : Hid (Blk qg (gg) 25 #[.int .u64 0, .int .i64 0, .slice none 0 0]) := KB_g_5.out.since bb
          clear BEL5 KB_bx_5 KB_x_5 KB_g_5
          clear bb
          have FA_g_6 : Hid (FilterAt qg (xg) S H n (addB S H n B s)) := fg
          obtain ⟨vg, rfl, Ag, cg, bbg, oog, rfl, hx1, hx2, hx3⟩ := fg
          clear hx1 hx2 hx3
          go_wp2_with fail
          refine hK.out _ _ (by exact KB_bx_6.out) (fun hHeld => ?_)
          clear hK K hHeld
          refine wpAnyH_ready (rs := [5]) (by kernel_rfl) (by simp) ?_
          refine AllReadyH.cons rfl (fun K hK => ?_) ?_
          · go_simp
            refine (places_made _ _ S H n _ s (BA.out.keep (keep_of_below BEL6.out)) uS (by omega)).mono ?_
            rintro e qp ⟨vp, rfl, hp, bb, fr⟩
            rw [KE.out] at hp fr
            obtain ⟨Ap, cp, bp, op, rfl, hx1, hx2, hx3⟩ := hp
            have BEL7 : Hid (Below w.heap.size w qp) := bel_trans BEL6.out bb
            have FA_g_7 : Hid (FilterAt qp (.agg #[.int .u64 S, .int .i64 H, .slice Ag n cg]) S H n (addB S H n B s)) := FA_g_6.out.keep (keep_of_below bb)
            have KB_bx_7 : Hid (Blk qp (w.heap.size) 25 #[.int .u64 S, .int .i64 H, .slice A n cap]) := KB_bx_6.out.since bb
            have KB_x_7 : Hid (Blk qp (gx) 30 #[.int .u64 S, .int .i64 H, .slice A n cap]) := KB_x_6.out.since bb
            have KB_g_7 : Hid (Blk qp (gg) 25 #[.int .u64 0, .int .i64 0, .slice none 0 0]) := KB_g_6.out.since bb
            clear BEL6 FA_g_6 KB_bx_6 KB_x_6 KB_g_6
            clear bb fr hx1 hx2 hx3
            go_wp2_with fail
            refine hK.out _ _ (by exact KB_bx_7.out) (fun hHeld => ?_)
            clear hK K hHeld
            refine wpAnyH_ready (rs := [7]) (by kernel_rfl) (by simp) ?_
            refine AllReadyH.cons rfl (fun K hK => ?_) ?_
            rotate_left
            · exact AllReadyH.nil
            have cx0 : qp.cell? ⟨gg, 0, none⟩ = some (.int .u64 0) := KB_g_7.out.cell 0
            have cf0 := KB_g_7.out.frozen 0
            have cx1 : qp.cell? ⟨gg, 1, none⟩ = some (.int .i64 0) := KB_g_7.out.cell 1
            have cf1 := KB_g_7.out.frozen 1
            have cx2 : qp.cell? ⟨gg, 2, none⟩ = some (.slice none 0 0) := KB_g_7.out.cell 2
            have cf2 := KB_g_7.out.frozen 2
            go_simp
            clear cx0 cf0 cx1 cf1 cx2 cf2
            obtain ⟨v7, hvv7⟩ : ∃ q, q = (((qp.setCell ⟨gg, 0, none⟩ (.int .u64 S)).setCell ⟨gg, 1, none⟩ (.int .i64 H)).setCell ⟨gg, 2, none⟩ (.slice Ag n cg)) := ⟨_, rfl⟩
            rw [← hvv7]
            have BEL8 : Hid (Below w.heap.size w v7) := by rw [hvv7]; exact put3_below BEL7.out GE_g.out _ _ _
            have FA_g_8 : Hid (FilterAt v7 (.agg #[.int .u64 S, .int .i64 H, .slice Ag n cg]) S H n (addB S H n B s)) := by rw [hvv7]; exact filter_put FA_g_7.out KB_g_7.out _ _ _
            have KB_bx_8 : Hid (Blk v7 (w.heap.size) 25 #[.int .u64 S, .int .i64 H, .slice A n cap]) := by rw [hvv7]; exact put3_other KB_bx_7.out (by first | exact NE_bx_g.out | exact NE_g_bx.out.symm) _ _ _
            have KB_x_8 : Hid (Blk v7 (gx) 30 #[.int .u64 S, .int .i64 H, .slice A n cap]) := by rw [hvv7]; exact put3_other KB_x_7.out (by first | exact NE_x_g.out | exact NE_g_x.out.symm) _ _ _
            have KB_g_8 : Hid (Blk v7 (gg) 25 #[.int .u64 S, .int .i64 H, .slice Ag n cg]) := by rw [hvv7]; exact put3_blk KB_g_7.out _ _ _
            clear hvv7 BEL7 FA_g_7 KB_bx_7 KB_x_7 KB_g_7
            refine hK.out _ _ (by exact KB_bx_8.out) (fun hHeld => ?_)
            clear hK K hHeld
            refine wpAnyH_take (i := 8) (v := ?_) rfl (by kernel_rfl) (by kernel_rfl) (by kernel_rfl) (fun _ _ _ h => h) (Or.inl ⟨by rfl, ?_⟩) KB_bx_8.out ?_
            rotate_left
            · intro w hSw; go_simp; first | done | with_reducible rfl
            simp only [List.getElem_toArray, List.getElem_cons_zero, List.getElem_cons_succ, Act.put, List.setIfInBounds_toArray, List.set_cons_zero, List.set_cons_succ]
            refine wpAnyH_done (by kernel_rfl) ?_ _
            refine NoPanic.normal ?_
            go_wp2_with fail
            go_meet
            case rel => exact ⟨gg, Ag, cg, Ap, cp, ⟨rfl, rfl⟩, ⟨BEL8.out, KB_bx_8.out, KB_x_8.out, KB_g_8.out, FA_g_8.out⟩⟩
          exact AllReadyH.nil
        exact AllReadyH.nil
      exact AllReadyH.nil
    case rest =>
      obtain ⟨gg, Ag, cg, Ap, cp, ⟨rfl, rfl⟩, T⟩ := hcut
      have BEL90 : Hid (Below w.heap.size w wc) := T.since
      have FA_g_90 : Hid (FilterAt wc (.agg #[.int .u64 S, .int .i64 H, .slice Ag n cg]) S H n (addB S H n B s)) := T.fg
      have KB_bx_90 : Hid (Blk wc (w.heap.size) 25 #[.int .u64 S, .int .i64 H, .slice A n cap]) := T.bx
      have KB_x_90 : Hid (Blk wc (gx) 30 #[.int .u64 S, .int .i64 H, .slice A n cap]) := T.xx
      have KB_g_90 : Hid (Blk wc (gg) 25 #[.int .u64 S, .int .i64 H, .slice Ag n cg]) := T.gx
      have FA_a_90 : Hid (FilterAt wc (.agg #[.int .u64 S, .int .i64 H, .slice A n cap]) S H n B) := BA.out.keep (keep_of_below BEL90.out)
      clear T BEL3 KB_bx_3 KB_x_3 NXB
      have CE_bx_0 : wc.cell? ⟨w.heap.size, 0, none⟩ = some (.int .u64 S) := KB_bx_90.out.cell 0
      have CE_bx_1 : wc.cell? ⟨w.heap.size, 1, none⟩ = some (.int .i64 H) := KB_bx_90.out.cell 1
      have CE_bx_2 : wc.cell? ⟨w.heap.size, 2, none⟩ = some (.slice A n cap) := KB_bx_90.out.cell 2
      have CE_bx_lt : w.heap.size < wc.heap.size := KB_bx_90.out.lt
      go_wp2_with fail
      clear CE_bx_0 CE_bx_1 CE_bx_2 CE_bx_lt
      go_loop [8, 39] (fun x y => ∃ k T : Nat, (k ≤ n ∧ T = cntB B k) ∧ x = .int .i64 (T : Int) ∧ y = .int .i64 (k : Int)) (fun _ y => n - (intOf y).toNat)
      case atStart => exact ⟨0, 0, ⟨by omega, rfl⟩, rfl, rfl⟩
      case round =>
        obtain ⟨k, T, ⟨hk, hT⟩, rfl, rfl⟩ := hrel
        have HT : Hid (T = cntB B k) := hT
        have t1 : T ≤ 300 := by have := cntB_le B k; omega
        clear hT
        by_cases hlt : k < n
        · obtain rfl := Q3.out (by omega)
          have cp := keep_of_below BEL90.out _ _ (Q4.out k hlt)
          have hb1 : (k : Int) < (n : Int) := by omega
          by_cases hB : B k = true
          · rw [hB] at cp
            have HB : Hid (B k = true) := hB
            clear hB
            go_wp2_with fail
            go_round
            case rel => exact ⟨k + 1, T + 1, ⟨by omega, by rw [cntB, if_pos HB.out, ← HT.out]⟩, by go_num, by go_num⟩
            case measure => simp [intOf]; omega
          · have hB' : B k = false := by simpa using hB
            rw [hB'] at cp
            have HB : Hid (¬ B k = true) := hB
            clear hB hB'
            go_wp2_with fail
            go_round
            case rel => exact ⟨k + 1, T, ⟨by omega, by rw [cntB, if_neg HB.out, ← HT.out]; rfl⟩, rfl, by go_num⟩
            case measure => simp [intOf]; omega
        · obtain rfl : n = k := by omega
          have b1 : ¬ (n : Int) < (n : Int) := by omega
          clear hlt hk
          have CE_x_0 : wc.cell? ⟨gx, 0, none⟩ = some (.int .u64 S) := KB_x_90.out.cell 0
          have CE_x_1 : wc.cell? ⟨gx, 1, none⟩ = some (.int .i64 H) := KB_x_90.out.cell 1
          have CE_x_2 : wc.cell? ⟨gx, 2, none⟩ = some (.slice A n cap) := KB_x_90.out.cell 2
          have CE_x_lt : gx < wc.heap.size := KB_x_90.out.lt
          go_wp2_with fail
          refine (rright_any _ _ S H n _ FA_a_90.out).mono ?_
          rintro e wq ⟨rfl, b9⟩
          clear CE_x_0 CE_x_1 CE_x_2 CE_x_lt
          have BEL91 : Hid (Below w.heap.size w wq) := bel_trans BEL90.out b9
          have FA_g_91 : Hid (FilterAt wq (.agg #[.int .u64 S, .int .i64 H, .slice Ag n cg]) S H n (addB S H n B s)) := FA_g_90.out.keep (keep_of_below b9)
          have FA_a_91 : Hid (FilterAt wq (.agg #[.int .u64 S, .int .i64 H, .slice A n cap]) S H n B) := FA_a_90.out.keep (keep_of_below b9)
          have KB_bx_91 : Hid (Blk wq (w.heap.size) 25 #[.int .u64 S, .int .i64 H, .slice A n cap]) := KB_bx_90.out.since b9
          have KB_x_91 : Hid (Blk wq (gx) 30 #[.int .u64 S, .int .i64 H, .slice A n cap]) := KB_x_90.out.since b9
          have KB_g_91 : Hid (Blk wq (gg) 25 #[.int .u64 S, .int .i64 H, .slice Ag n cg]) := KB_g_90.out.since b9
          clear BEL90 FA_g_90 FA_a_90 KB_bx_90 KB_x_90 KB_g_90
          clear b9
          rw [HF.out]
          clear b1 Q3 Q4
          have RR : Hid (∀ w1, Below wq.heap.size wq w1 → Calls Try.prog 14 #[.agg #[.int .u64 S, .int .i64 H, .slice A n cap]] w1 fun e w' => e = .returned (.bool false) ∧ Below wq.heap.size wq w') := fun w1 b1 => (right_any w1 _ S H n _ (FA_a_91.out.keep (keep_of_below b1))).mono fun e w' h => ⟨by rw [h.1, HF.out], bel_trans b1 h.2⟩
          have RG : Hid (∀ w1, Below wq.heap.size wq w1 → Calls Try.prog 11 #[.agg #[.int .u64 S, .int .i64 H, .slice Ag n cg]] w1 fun e w' => e = .returned (.agg #[.int .u64 S, .int .i64 H, .slice Ag n cg]) ∧ Below wq.heap.size wq w') := fun w1 b1 => (ref_any w1 _ S H n _ (FA_g_91.out.keep (keep_of_below b1))).mono fun e w' h => ⟨h.1, bel_trans b1 h.2⟩
          have E1 : Hid (∀ w1, Below wq.heap.size wq w1 → Calls Try.prog 10 #[.agg #[.int .u64 S, .int .i64 H, .slice Ag n cg], .agg #[.int .u64 S, .int .i64 H, .slice A n cap]] w1 fun e w' => e = .returned (.bool true) ∧ Below wq.heap.size wq w') := fun w1 b1 => (requal_any w1 _ _ S H S H n n _ _ (FA_g_91.out.keep (keep_of_below b1)) (FA_a_91.out.keep (keep_of_below b1)) (by omega)).mono fun e w' h => ⟨(told h true ⟨fun _ => ⟨rfl, rfl, rfl, fun i hi => by rw [addB_wrong HF.out]⟩, fun _ => rfl⟩).1, bel_trans b1 (told h true ⟨fun _ => ⟨rfl, rfl, rfl, fun i hi => by rw [addB_wrong HF.out]⟩, fun _ => rfl⟩).2⟩
          have HA : Hid (∀ w1, Below wq.heap.size wq w1 → Calls Try.prog 19 #[.agg #[.int .u64 S, .int .i64 H, .slice A n cap], .string s] w1 fun e w' => e = .returned (.bool false) ∧ Below wq.heap.size wq w') := fun w1 b1 => (has_any w1 _ S H n _ s (FA_a_91.out.keep (keep_of_below b1)) uS (by omega)).mono fun e w' h => ⟨(told h false ⟨fun h => (by cases h), fun h => absurd h.1 (by rw [HF.out]; decide)⟩).1, bel_trans b1 (told h false ⟨fun h => (by cases h), fun h => absurd h.1 (by rw [HF.out]; decide)⟩).2⟩
          have SE : Hid (setB n H B = 0) := if_neg (by rw [HF.out]; decide)
          have SA : Hid (∀ w1, Below wq.heap.size wq w1 → Calls Try.prog 15 #[.agg #[.int .u64 S, .int .i64 H, .slice A n cap]] w1 fun e w' => e = .returned (.int .i64 0) ∧ Below wq.heap.size wq w') := fun w1 b1 => (set_any w1 _ S H n _ (FA_a_91.out.keep (keep_of_below b1))).mono fun e w' h => ⟨by rw [h.1, SE.out]; rfl, bel_trans b1 h.2⟩
          have WA : Hid (∀ w1, Below wq.heap.size wq w1 → Calls Try.prog 12 #[] w1 fun e w' => e = .returned (.bool true) ∧ Below wq.heap.size wq w') := fun w1 b1 => (awake_any w1).mono fun e w' h => ⟨h.1, bel_trans b1 h.2⟩
          have KS : Hid (∀ w' : World, Below wq.heap.size wq w' → (w'.cell? ⟨w.heap.size, 0, none⟩ = some (.int .u64 S) ∧ w'.cell? ⟨w.heap.size, 1, none⟩ = some (.int .i64 H) ∧ w'.cell? ⟨w.heap.size, 2, none⟩ = some (.slice A n cap) ∧ w'.cell? ⟨gg, 0, none⟩ = some (.int .u64 S) ∧ w'.cell? ⟨gg, 1, none⟩ = some (.int .i64 H) ∧ w'.cell? ⟨gg, 2, none⟩ = some (.slice Ag n cg) ∧ w'.cell? ⟨gx, 0, none⟩ = some (.int .u64 S) ∧ w'.cell? ⟨gx, 1, none⟩ = some (.int .i64 H) ∧ w'.cell? ⟨gx, 2, none⟩ = some (.slice A n cap))) := fun w' b1 => ⟨(KB_bx_91.out.since b1).cell 0, (KB_bx_91.out.since b1).cell 1, (KB_bx_91.out.since b1).cell 2, (KB_g_91.out.since b1).cell 0, (KB_g_91.out.since b1).cell 1, (KB_g_91.out.since b1).cell 2, (KB_x_91.out.since b1).cell 0, (KB_x_91.out.since b1).cell 1, (KB_x_91.out.since b1).cell 2⟩
          have Z0 : Hid (Below wq.heap.size wq wq.drew) := (Below.refl _ _).drew
          have CE_bx_0 : wq.cell? ⟨w.heap.size, 0, none⟩ = some (.int .u64 S) := KB_bx_91.out.cell 0
          have CE_bx_1 : wq.cell? ⟨w.heap.size, 1, none⟩ = some (.int .i64 H) := KB_bx_91.out.cell 1
          have CE_bx_2 : wq.cell? ⟨w.heap.size, 2, none⟩ = some (.slice A n cap) := KB_bx_91.out.cell 2
          have CE_bx_lt : w.heap.size < wq.heap.size := KB_bx_91.out.lt
          have CE_x_0 : wq.cell? ⟨gx, 0, none⟩ = some (.int .u64 S) := KB_x_91.out.cell 0
          have CE_x_1 : wq.cell? ⟨gx, 1, none⟩ = some (.int .i64 H) := KB_x_91.out.cell 1
          have CE_x_2 : wq.cell? ⟨gx, 2, none⟩ = some (.slice A n cap) := KB_x_91.out.cell 2
          have CE_x_lt : gx < wq.heap.size := KB_x_91.out.lt
          have CE_g_0 : wq.cell? ⟨gg, 0, none⟩ = some (.int .u64 S) := KB_g_91.out.cell 0
          have CE_g_1 : wq.cell? ⟨gg, 1, none⟩ = some (.int .i64 H) := KB_g_91.out.cell 1
          have CE_g_2 : wq.cell? ⟨gg, 2, none⟩ = some (.slice Ag n cg) := KB_g_91.out.cell 2
          have CE_g_lt : gg < wq.heap.size := KB_g_91.out.lt
          clear FA_a_91 FA_g_91 SE
          go_wp2_with fail
          go_region_held3 (fun w' => w'.cell? ⟨w.heap.size, 0, none⟩ = some (.int .u64 S) ∧ w'.cell? ⟨w.heap.size, 1, none⟩ = some (.int .i64 H) ∧ w'.cell? ⟨w.heap.size, 2, none⟩ = some (.slice A n cap) ∧ w'.cell? ⟨gg, 0, none⟩ = some (.int .u64 S) ∧ w'.cell? ⟨gg, 1, none⟩ = some (.int .i64 H) ∧ w'.cell? ⟨gg, 2, none⟩ = some (.slice Ag n cg) ∧ w'.cell? ⟨gx, 0, none⟩ = some (.int .u64 S) ∧ w'.cell? ⟨gx, 1, none⟩ = some (.int .i64 H) ∧ w'.cell? ⟨gx, 2, none⟩ = some (.slice A n cap)) (first | go_keep | exact KS.out _ Z6.out | exact KS.out _ Z5.out | exact KS.out _ Z4.out | exact KS.out _ Z3.out | exact KS.out _ Z2.out | exact KS.out _ Z1.out) (first
            | (have fl := Z5; clear fl; go_simp; go_at_call 12; refine (WA.out _ Z5.out).mono ?_; rintro e q6 ⟨rfl, cc⟩; have Z6 : Hid (Below wq.heap.size wq q6) := cc; clear cc)
            | (have fl := Z4; clear fl; go_simp; go_at_call 15; refine (SA.out _ Z4.out).mono ?_; rintro e q5 ⟨rfl, cc⟩; have Z5 : Hid (Below wq.heap.size wq q5) := cc; clear cc)
            | (have fl := Z3; clear fl; go_simp; go_at_call 19; refine (HA.out _ Z3.out).mono ?_; rintro e q4 ⟨rfl, cc⟩; have Z4 : Hid (Below wq.heap.size wq q4) := cc; clear cc)
            | (have fl := Z2; clear fl; go_simp; go_at_call 10; refine (E1.out _ Z2.out).mono ?_; rintro e q3 ⟨rfl, cc⟩; have Z3 : Hid (Below wq.heap.size wq q3) := cc; clear cc)
            | (have fl := Z1; clear fl; go_simp; go_at_call 11; refine (RG.out _ Z1.out).mono ?_; rintro e q2 ⟨rfl, cc⟩; have Z2 : Hid (Below wq.heap.size wq q2) := cc; clear cc)
            | (have fl := Z0; clear fl; go_simp; go_at_call 14; refine (RR.out _ Z0.out).mono ?_; rintro e q1 ⟨rfl, cc⟩; have Z1 : Hid (Below wq.heap.size wq q1) := cc; clear cc))
          all_goals go_wp2_with fail
          all_goals go_ret
          all_goals exact ⟨rfl, bel_trans BEL91.out Z6.out⟩
  have hR := (fitsB_iff _ _).1 hf
  obtain ⟨N, rfl⟩ : ∃ N : Nat, H = N := ⟨H.toNat, by omega⟩
  have n1 : 1 ≤ n := by omega
  have n2 : n ≤ 256 := by omega
  have N1 : 1 ≤ N := by omega
  have N2 : N ≤ 7 := by omega
  have HF : Hid (fitsB n (N : Int) = true) := hf
  have KE : Hid (kN n (N : Int) = N) := by show kN n (N : Int) = N; rw [kN_right hf]; omega
  have PL : Hid (∀ i, placeN S s n i < n) := fun i => placeN_lt S s n i n1
  clear hR hf
  have hs : s.size ≤ 100 := by omega
  have hn : n ≤ 300 := by omega
  have BEL0 : Hid (Below w.heap.size w w) := Below.refl _ _
  clear hF q3 q4 hcap iH
  go_enter Try.func4, Try.ntmps4
  have BEL1 : Hid (Below w.heap.size w (w.alloc (.cells #[.int .u64 S, .int .i64 (N : Int), .slice A n cap] 25))) := bel_trans BEL0.out (bel_alloc _ _)
  clear BEL0
  have KB_bx_1 : Hid (Blk (w.alloc (.cells #[.int .u64 S, .int .i64 (N : Int), .slice A n cap] 25)) (w.heap.size) 25 #[.int .u64 S, .int .i64 (N : Int), .slice A n cap]) := Blk.new _ _ _
  have CE_bx_0 : ((w.alloc (.cells #[.int .u64 S, .int .i64 (N : Int), .slice A n cap] 25))).cell? ⟨w.heap.size, 0, none⟩ = some (.int .u64 S) := KB_bx_1.out.cell 0
  have CE_bx_1 : ((w.alloc (.cells #[.int .u64 S, .int .i64 (N : Int), .slice A n cap] 25))).cell? ⟨w.heap.size, 1, none⟩ = some (.int .i64 (N : Int)) := KB_bx_1.out.cell 1
  have CE_bx_2 : ((w.alloc (.cells #[.int .u64 S, .int .i64 (N : Int), .slice A n cap] 25))).cell? ⟨w.heap.size, 2, none⟩ = some (.slice A n cap) := KB_bx_1.out.cell 2
  have CE_bx_lt : w.heap.size < ((w.alloc (.cells #[.int .u64 S, .int .i64 (N : Int), .slice A n cap] 25))).heap.size := KB_bx_1.out.lt
  go_wp2_with fail
  refine (ref_any _ _ S (N : Int) n _ (BA.out.keep (keep_of_below BEL1.out))).mono ?_
  rintro e ww1 ⟨rfl, b1⟩
  clear CE_bx_0 CE_bx_1 CE_bx_2 CE_bx_lt
  have BEL2 : Hid (Below w.heap.size w ww1) := bel_trans BEL1.out b1
  have KB_bx_2 : Hid (Blk ww1 (w.heap.size) 25 #[.int .u64 S, .int .i64 (N : Int), .slice A n cap]) := KB_bx_1.out.since b1
  clear BEL1 KB_bx_1
  clear b1
  go_upto_region 4 with fail
  have NXB : Hid (w.heap.size ≠ ww1.heap.size) := Nat.ne_of_lt KB_bx_2.out.lt
  have BEL3 : Hid (Below w.heap.size w (ww1.alloc (.cells #[.int .u64 S, .int .i64 (N : Int), .slice A n cap] 30))) := bel_trans BEL2.out (bel_alloc _ _)
  have KB_bx_3 : Hid (Blk (ww1.alloc (.cells #[.int .u64 S, .int .i64 (N : Int), .slice A n cap] 30)) (w.heap.size) 25 #[.int .u64 S, .int .i64 (N : Int), .slice A n cap]) := KB_bx_2.out.since (bel_alloc _ _)
  clear BEL2 KB_bx_2
  have KB_x_3 : Hid (Blk (ww1.alloc (.cells #[.int .u64 S, .int .i64 (N : Int), .slice A n cap] 30)) (ww1.heap.size) 30 #[.int .u64 S, .int .i64 (N : Int), .slice A n cap]) := Blk.new _ _ _
  generalize (ww1.alloc (.cells #[.int .u64 S, .int .i64 (N : Int), .slice A n cap] 30)) = u1 at BEL3 KB_bx_3 KB_x_3 ⊢
  generalize ww1.heap.size = gx at NXB KB_x_3 ⊢
  go_cut [6, 7] from 13 (fun s6 s7 wx => ∃ gg Ag cg bp op cp, (s6 = .pointer (some ⟨gg, 0, none⟩) ∧ s7 = .slice (some ⟨bp, op, none⟩) N cp) ∧ TurnIn w wx gx gg S (N : Int) n A cap Ag cg (addB S (N : Int) n B s) ∧ PlIn wx bp op N (placeN S s n))
  case first =>
    refine wp_region_noPanic ?_
    have BEL4 : Hid (Below w.heap.size w u1.drew) := bel_trans BEL3.out ((Below.refl _ _).drew)
    have KB_bx_4 : Hid (Blk u1.drew (w.heap.size) 25 #[.int .u64 S, .int .i64 (N : Int), .slice A n cap]) := KB_bx_3.out.since ((Below.refl _ _).drew)
    have KB_x_4 : Hid (Blk u1.drew (gx) 30 #[.int .u64 S, .int .i64 (N : Int), .slice A n cap]) := KB_x_3.out.since ((Below.refl _ _).drew)
    clear BEL3 KB_bx_3 KB_x_3
    refine wp_region_held_drew (S := (fun w' => Blk w' (w.heap.size) 25 #[.int .u64 S, .int .i64 (N : Int), .slice A n cap])) (by kernel_rfl) KB_bx_4.out (fun hHeld => ?_)
    clear hHeld
    generalize u1.drew = v1 at BEL4 KB_bx_4 KB_x_4 ⊢
    refine wpAnyH_take (i := 0) (v := ?_) rfl (by kernel_rfl) (by kernel_rfl) (by kernel_rfl) (fun _ _ _ h => h) (Or.inl ⟨by rfl, ?_⟩) KB_bx_4.out ?_
    rotate_left
    · intro w hSw; have cl0 := hSw.cell 0; have cl1 := hSw.cell 1; have cl2 := hSw.cell 2; go_simp; first | done | with_reducible rfl
    simp only [List.getElem_toArray, List.getElem_cons_zero, Act.put, List.setIfInBounds_toArray, List.set_cons_zero, List.set_cons_succ]
    refine wpAnyH_take (i := 1) (v := ?_) rfl (by kernel_rfl) (by kernel_rfl) (by kernel_rfl) (fun _ _ _ h => h) (Or.inl ⟨by rfl, ?_⟩) KB_bx_4.out ?_
    rotate_left
    · intro w hSw; go_simp; first | done | with_reducible rfl
    simp only [List.getElem_toArray, List.getElem_cons_zero, List.getElem_cons_succ, Act.put, List.setIfInBounds_toArray, List.set_cons_zero, List.set_cons_succ]
    refine wpAnyH_take (i := 3) (v := ?_) rfl (by kernel_rfl) (by kernel_rfl) (by kernel_rfl) (fun _ _ _ h => h) (Or.inl ⟨by rfl, ?_⟩) KB_bx_4.out ?_
    rotate_left
    · intro w hSw; have cl0 := hSw.cell 0; have cl1 := hSw.cell 1; have cl2 := hSw.cell 2; go_simp; first | done | with_reducible rfl
    simp only [List.getElem_toArray, List.getElem_cons_zero, List.getElem_cons_succ, Act.put, List.setIfInBounds_toArray, List.set_cons_zero, List.set_cons_succ]
    refine wpAnyH_take (i := 4) (v := ?_) rfl (by kernel_rfl) (by kernel_rfl) (by kernel_rfl) (fun _ _ _ h => h) (Or.inl ⟨by rfl, ?_⟩) KB_bx_4.out ?_
    rotate_left
    · intro w hSw; go_simp; first | done | with_reducible rfl
    simp only [List.getElem_toArray, List.getElem_cons_zero, List.getElem_cons_succ, Act.put, List.setIfInBounds_toArray, List.set_cons_zero, List.set_cons_succ]
    refine wpAnyH_ready (rs := [2, 6]) (by kernel_rfl) (by simp) ?_
    refine AllReadyH.cons rfl (fun K hK => ?_) ?_
    · go_simp
      refine (add_any _ _ S (N : Int) n _ s (BA.out.keep (keep_of_below BEL4.out)) uS (by omega) (by omega)).mono ?_
      rintro e qg ⟨xg, rfl, fg, bb⟩
      have BEL5 : Hid (Below w.heap.size w qg) := bel_trans BEL4.out bb
      have KB_bx_5 : Hid (Blk qg (w.heap.size) 25 #[.int .u64 S, .int .i64 (N : Int), .slice A n cap]) := KB_bx_4.out.since bb
      have KB_x_5 : Hid (Blk qg (gx) 30 #[.int .u64 S, .int .i64 (N : Int), .slice A n cap]) := KB_x_4.out.since bb
      clear BEL4 KB_bx_4 KB_x_4
      clear bb
      have FA_g_5 : Hid (FilterAt qg (xg) S (N : Int) n (addB S (N : Int) n B s)) := fg
      obtain ⟨vg, rfl, Ag, cg, bbg, oog, rfl, hx1, hx2, hx3⟩ := fg
      clear hx1 hx2 hx3
      go_wp2_with fail
      refine hK.out _ _ (by exact KB_bx_5.out) (fun hHeld => ?_)
      clear hK K hHeld
      refine wpAnyH_ready (rs := [5, 6]) (by kernel_rfl) (by simp) ?_
      refine AllReadyH.cons rfl (fun K hK => ?_) ?_
      · go_simp
        refine (places_made _ _ S (N : Int) n _ s (BA.out.keep (keep_of_below BEL5.out)) uS (by omega)).mono ?_
        rintro e qp ⟨vp, rfl, hp, bb, fr⟩
        rw [KE.out] at hp fr
        obtain ⟨bp, op, cp, rfl, fr2⟩ := fr (by omega)
        have hpl : PlIn qp bp op N (placeN S s n) := by
          obtain ⟨A1, cap1, b1, o1, e1, e2, e3, e4⟩ := hp
          cases e1
          cases e3 (by omega)
          exact ⟨e4⟩
        have BEL6 : Hid (Below w.heap.size w qp) := bel_trans BEL5.out bb
        have FA_g_6 : Hid (FilterAt qp (.agg #[.int .u64 S, .int .i64 (N : Int), .slice Ag n cg]) S (N : Int) n (addB S (N : Int) n B s)) := FA_g_5.out.keep (keep_of_below bb)
        have KB_bx_6 : Hid (Blk qp (w.heap.size) 25 #[.int .u64 S, .int .i64 (N : Int), .slice A n cap]) := KB_bx_5.out.since bb
        have KB_x_6 : Hid (Blk qp (gx) 30 #[.int .u64 S, .int .i64 (N : Int), .slice A n cap]) := KB_x_5.out.since bb
        clear BEL5 FA_g_5 KB_bx_5 KB_x_5
        clear bb fr fr2 hp
        have EX_pl_6 : Hid (PlIn qp bp op N (placeN S s n)) := hpl
        clear hpl
        go_wp2_with fail
        refine hK.out _ _ (by exact KB_bx_6.out) (fun hHeld => ?_)
        clear hK K hHeld
        refine wpAnyH_ready (rs := [6]) (by kernel_rfl) (by simp) ?_
        refine AllReadyH.cons rfl (fun K hK => ?_) ?_
        · have GE_g : Hid (w.heap.size ≤ qp.heap.size) := BEL6.out.size
          have NE_bx_g : Hid (w.heap.size ≠ qp.heap.size) := Nat.ne_of_lt KB_bx_6.out.lt
          have NE_x_g : Hid (gx ≠ qp.heap.size) := Nat.ne_of_lt KB_x_6.out.lt
          have NE_pl_g : Hid (bp ≠ qp.heap.size) := plin_ne EX_pl_6.out (by omega)
          have BEL7 : Hid (Below w.heap.size w (qp.alloc (.cells #[.int .u64 0, .int .i64 0, .slice none 0 0] 25))) := bel_trans BEL6.out (bel_alloc _ _)
          have FA_g_7 : Hid (FilterAt (qp.alloc (.cells #[.int .u64 0, .int .i64 0, .slice none 0 0] 25)) (.agg #[.int .u64 S, .int .i64 (N : Int), .slice Ag n cg]) S (N : Int) n (addB S (N : Int) n B s)) := FA_g_6.out.keep (keep_of_below (bel_alloc _ _))
          have KB_bx_7 : Hid (Blk (qp.alloc (.cells #[.int .u64 0, .int .i64 0, .slice none 0 0] 25)) (w.heap.size) 25 #[.int .u64 S, .int .i64 (N : Int), .slice A n cap]) := KB_bx_6.out.since (bel_alloc _ _)
          have KB_x_7 : Hid (Blk (qp.alloc (.cells #[.int .u64 0, .int .i64 0, .slice none 0 0] 25)) (gx) 30 #[.int .u64 S, .int .i64 (N : Int), .slice A n cap]) := KB_x_6.out.since (bel_alloc _ _)
          have EX_pl_7 : Hid (PlIn (qp.alloc (.cells #[.int .u64 0, .int .i64 0, .slice none 0 0] 25)) bp op N (placeN S s n)) := EX_pl_6.out.keep (keep_of_below (bel_alloc _ _))
          clear BEL6 FA_g_6 KB_bx_6 KB_x_6 EX_pl_6
          have KB_g_7 : Hid (Blk (qp.alloc (.cells #[.int .u64 0, .int .i64 0, .slice none 0 0] 25)) (qp.heap.size) 25 #[.int .u64 0, .int .i64 0, .slice none 0 0]) := Blk.new _ _ _
          go_simp
          generalize (qp.alloc (.cells #[.int .u64 0, .int .i64 0, .slice none 0 0] 25)) = v2 at BEL7 FA_g_7 KB_bx_7 KB_x_7 KB_g_7 EX_pl_7 ⊢
          generalize qp.heap.size = gg at GE_g KB_g_7 NE_bx_g NE_x_g NE_pl_g ⊢
          refine hK.out _ _ (by exact KB_bx_7.out) (fun hHeld => ?_)
          clear hK K hHeld
          refine wpAnyH_ready (rs := [7]) (by kernel_rfl) (by simp) ?_
          refine AllReadyH.cons rfl (fun K hK => ?_) ?_
          rotate_left
          · exact AllReadyH.nil
          have cx0 : v2.cell? ⟨gg, 0, none⟩ = some (.int .u64 0) := KB_g_7.out.cell 0
          have cf0 := KB_g_7.out.frozen 0
          have cx1 : v2.cell? ⟨gg, 1, none⟩ = some (.int .i64 0) := KB_g_7.out.cell 1
          have cf1 := KB_g_7.out.frozen 1
          have cx2 : v2.cell? ⟨gg, 2, none⟩ = some (.slice none 0 0) := KB_g_7.out.cell 2
          have cf2 := KB_g_7.out.frozen 2
          go_simp
          clear cx0 cf0 cx1 cf1 cx2 cf2
          obtain ⟨v3, hvv3⟩ : ∃ q, q = (((v2.setCell ⟨gg, 0, none⟩ (.int .u64 S)).setCell ⟨gg, 1, none⟩ (.int .i64 (N : Int))).setCell ⟨gg, 2, none⟩ (.slice Ag n cg)) := ⟨_, rfl⟩
          rw [← hvv3]
          have BEL8 : Hid (Below w.heap.size w v3) := by rw [hvv3]; exact put3_below BEL7.out GE_g.out _ _ _
          have FA_g_8 : Hid (FilterAt v3 (.agg #[.int .u64 S, .int .i64 (N : Int), .slice Ag n cg]) S (N : Int) n (addB S (N : Int) n B s)) := by rw [hvv3]; exact filter_put FA_g_7.out KB_g_7.out _ _ _
          have KB_bx_8 : Hid (Blk v3 (w.heap.size) 25 #[.int .u64 S, .int .i64 (N : Int), .slice A n cap]) := by rw [hvv3]; exact put3_other KB_bx_7.out (by first | exact NE_bx_g.out | exact NE_g_bx.out.symm) _ _ _
          have KB_x_8 : Hid (Blk v3 (gx) 30 #[.int .u64 S, .int .i64 (N : Int), .slice A n cap]) := by rw [hvv3]; exact put3_other KB_x_7.out (by first | exact NE_x_g.out | exact NE_g_x.out.symm) _ _ _
          have KB_g_8 : Hid (Blk v3 (gg) 25 #[.int .u64 S, .int .i64 (N : Int), .slice Ag n cg]) := by rw [hvv3]; exact put3_blk KB_g_7.out _ _ _
          have EX_pl_8 : Hid (PlIn v3 bp op N (placeN S s n)) := by rw [hvv3]; exact plin_put EX_pl_7.out NE_pl_g.out _ _ _
          clear hvv3 BEL7 FA_g_7 KB_bx_7 KB_x_7 KB_g_7 EX_pl_7
          refine hK.out _ _ (by exact KB_bx_8.out) (fun hHeld => ?_)
          clear hK K hHeld
          refine wpAnyH_take (i := 8) (v := ?_) rfl (by kernel_rfl) (by kernel_rfl) (by kernel_rfl) (fun _ _ _ h => h) (Or.inl ⟨by rfl, ?_⟩) KB_bx_8.out ?_
          rotate_left
          · intro w hSw; go_simp; first | done | with_reducible rfl
          simp only [List.getElem_toArray, List.getElem_cons_zero, List.getElem_cons_succ, Act.put, List.setIfInBounds_toArray, List.set_cons_zero, List.set_cons_succ]
          refine wpAnyH_done (by kernel_rfl) ?_ _
          refine NoPanic.normal ?_
          go_wp2_with fail
          go_meet
          case rel => exact ⟨gg, Ag, cg, bp, op, cp, ⟨rfl, rfl⟩, ⟨BEL8.out, KB_bx_8.out, KB_x_8.out, KB_g_8.out, FA_g_8.out⟩, EX_pl_8.out⟩
        exact AllReadyH.nil
      refine AllReadyH.cons rfl (fun K hK => ?_) ?_
      · have GE_g : Hid (w.heap.size ≤ qg.heap.size) := BEL5.out.size
        have NE_bx_g : Hid (w.heap.size ≠ qg.heap.size) := Nat.ne_of_lt KB_bx_5.out.lt
        have NE_x_g : Hid (gx ≠ qg.heap.size) := Nat.ne_of_lt KB_x_5.out.lt
        have BEL6 : Hid (Below w.heap.size w (qg.alloc (.cells #[.int .u64 0, .int .i64 0, .slice none 0 0] 25))) := bel_trans BEL5.out (bel_alloc _ _)
        have FA_g_6 : Hid (FilterAt (qg.alloc (.cells #[.int .u64 0, .int .i64 0, .slice none 0 0] 25)) (.agg #[.int .u64 S, .int .i64 (N : Int), .slice Ag n cg]) S (N : Int) n (addB S (N : Int) n B s)) := FA_g_5.out.keep (keep_of_below (bel_alloc _ _))
        have KB_bx_6 : Hid (Blk (qg.alloc (.cells #[.int .u64 0, .int .i64 0, .slice none 0 0] 25)) (w.heap.size) 25 #[.int .u64 S, .int .i64 (N : Int), .slice A n cap]) := KB_bx_5.out.since (bel_alloc _ _)
        have KB_x_6 : Hid (Blk (qg.alloc (.cells #[.int .u64 0, .int .i64 0, .slice none 0 0] 25)) (gx) 30 #[.int .u64 S, .int .i64 (N : Int), .slice A n cap]) := KB_x_5.out.since (bel_alloc _ _)
        clear BEL5 FA_g_5 KB_bx_5 KB_x_5
        have KB_g_6 : Hid (Blk (qg.alloc (.cells #[.int .u64 0, .int .i64 0, .slice none 0 0] 25)) (qg.heap.size) 25 #[.int .u64 0, .int .i64 0, .slice none 0 0]) := Blk.new _ _ _
        go_simp
        generalize (qg.alloc (.cells #[.int .u64 0, .int .i64 0, .slice none 0 0] 25)) = v4 at BEL6 FA_g_6 KB_bx_6 KB_x_6 KB_g_6 ⊢
        generalize qg.heap.size = gg at GE_g KB_g_6 NE_bx_g NE_x_g ⊢
        refine hK.out _ _ (by exact KB_bx_6.out) (fun hHeld => ?_)
        clear hK K hHeld
        refine wpAnyH_ready (rs := [5]) (by kernel_rfl) (by simp) ?_
        refine AllReadyH.cons rfl (fun K hK => ?_) ?_
        · go_simp
          refine (places_made _ _ S (N : Int) n _ s (BA.out.keep (keep_of_below BEL6.out)) uS (by omega)).mono ?_
          rintro e qp ⟨vp, rfl, hp, bb, fr⟩
          rw [KE.out] at hp fr
          obtain ⟨bp, op, cp, rfl, fr2⟩ := fr (by omega)
          have NE_pl_g : Hid (bp ≠ gg) := Nat.ne_of_gt (Nat.lt_of_lt_of_le KB_g_6.out.lt fr2)
          have hpl : PlIn qp bp op N (placeN S s n) := by
            obtain ⟨A1, cap1, b1, o1, e1, e2, e3, e4⟩ := hp
            cases e1
            cases e3 (by omega)
            exact ⟨e4⟩
          have BEL7 : Hid (Below w.heap.size w qp) := bel_trans BEL6.out bb
          have FA_g_7 : Hid (FilterAt qp (.agg #[.int .u64 S, .int .i64 (N : Int), .slice Ag n cg]) S (N : Int) n (addB S (N : Int) n B s)) := FA_g_6.out.keep (keep_of_below bb)
          have KB_bx_7 : Hid (Blk qp (w.heap.size) 25 #[.int .u64 S, .int .i64 (N : Int), .slice A n cap]) := KB_bx_6.out.since bb
          have KB_x_7 : Hid (Blk qp (gx) 30 #[.int .u64 S, .int .i64 (N : Int), .slice A n cap]) := KB_x_6.out.since bb
          have KB_g_7 : Hid (Blk qp (gg) 25 #[.int .u64 0, .int .i64 0, .slice none 0 0]) := KB_g_6.out.since bb
          clear BEL6 FA_g_6 KB_bx_6 KB_x_6 KB_g_6
          clear bb fr fr2 hp
          have EX_pl_7 : Hid (PlIn qp bp op N (placeN S s n)) := hpl
          clear hpl
          go_wp2_with fail
          refine hK.out _ _ (by exact KB_bx_7.out) (fun hHeld => ?_)
          clear hK K hHeld
          refine wpAnyH_ready (rs := [7]) (by kernel_rfl) (by simp) ?_
          refine AllReadyH.cons rfl (fun K hK => ?_) ?_
          rotate_left
          · exact AllReadyH.nil
          have cx0 : qp.cell? ⟨gg, 0, none⟩ = some (.int .u64 0) := KB_g_7.out.cell 0
          have cf0 := KB_g_7.out.frozen 0
          have cx1 : qp.cell? ⟨gg, 1, none⟩ = some (.int .i64 0) := KB_g_7.out.cell 1
          have cf1 := KB_g_7.out.frozen 1
          have cx2 : qp.cell? ⟨gg, 2, none⟩ = some (.slice none 0 0) := KB_g_7.out.cell 2
          have cf2 := KB_g_7.out.frozen 2
          go_simp
          clear cx0 cf0 cx1 cf1 cx2 cf2
          obtain ⟨v5, hvv5⟩ : ∃ q, q = (((qp.setCell ⟨gg, 0, none⟩ (.int .u64 S)).setCell ⟨gg, 1, none⟩ (.int .i64 (N : Int))).setCell ⟨gg, 2, none⟩ (.slice Ag n cg)) := ⟨_, rfl⟩
          rw [← hvv5]
          have BEL8 : Hid (Below w.heap.size w v5) := by rw [hvv5]; exact put3_below BEL7.out GE_g.out _ _ _
          have FA_g_8 : Hid (FilterAt v5 (.agg #[.int .u64 S, .int .i64 (N : Int), .slice Ag n cg]) S (N : Int) n (addB S (N : Int) n B s)) := by rw [hvv5]; exact filter_put FA_g_7.out KB_g_7.out _ _ _
          have KB_bx_8 : Hid (Blk v5 (w.heap.size) 25 #[.int .u64 S, .int .i64 (N : Int), .slice A n cap]) := by rw [hvv5]; exact put3_other KB_bx_7.out (by first | exact NE_bx_g.out | exact NE_g_bx.out.symm) _ _ _
          have KB_x_8 : Hid (Blk v5 (gx) 30 #[.int .u64 S, .int .i64 (N : Int), .slice A n cap]) := by rw [hvv5]; exact put3_other KB_x_7.out (by first | exact NE_x_g.out | exact NE_g_x.out.symm) _ _ _
          have KB_g_8 : Hid (Blk v5 (gg) 25 #[.int .u64 S, .int .i64 (N : Int), .slice Ag n cg]) := by rw [hvv5]; exact put3_blk KB_g_7.out _ _ _
          have EX_pl_8 : Hid (PlIn v5 bp op N (placeN S s n)) := by rw [hvv5]; exact plin_put EX_pl_7.out NE_pl_g.out _ _ _
          clear hvv5 BEL7 FA_g_7 KB_bx_7 KB_x_7 KB_g_7 EX_pl_7
          refine hK.out _ _ (by exact KB_bx_8.out) (fun hHeld => ?_)
          clear hK K hHeld
          refine wpAnyH_take (i := 8) (v := ?_) rfl (by kernel_rfl) (by kernel_rfl) (by kernel_rfl) (fun _ _ _ h => h) (Or.inl ⟨by rfl, ?_⟩) KB_bx_8.out ?_
          rotate_left
          · intro w hSw; go_simp; first | done | with_reducible rfl
          simp only [List.getElem_toArray, List.getElem_cons_zero, List.getElem_cons_succ, Act.put, List.setIfInBounds_toArray, List.set_cons_zero, List.set_cons_succ]
          refine wpAnyH_done (by kernel_rfl) ?_ _
          refine NoPanic.normal ?_
          go_wp2_with fail
          go_meet
          case rel => exact ⟨gg, Ag, cg, bp, op, cp, ⟨rfl, rfl⟩, ⟨BEL8.out, KB_bx_8.out, KB_x_8.out, KB_g_8.out, FA_g_8.out⟩, EX_pl_8.out⟩
        exact AllReadyH.nil
      exact AllReadyH.nil
    refine AllReadyH.cons rfl (fun K hK => ?_) ?_
    · have GE_g : Hid (w.heap.size ≤ v1.heap.size) := BEL4.out.size
      have NE_bx_g : Hid (w.heap.size ≠ v1.heap.size) := Nat.ne_of_lt KB_bx_4.out.lt
      have NE_x_g : Hid (gx ≠ v1.heap.size) := Nat.ne_of_lt KB_x_4.out.lt
      have BEL5 : Hid (Below w.heap.size w (v1.alloc (.cells #[.int .u64 0, .int .i64 0, .slice none 0 0] 25))) := bel_trans BEL4.out (bel_alloc _ _)
      have KB_bx_5 : Hid (Blk (v1.alloc (.cells #[.int .u64 0, .int .i64 0, .slice none 0 0] 25)) (w.heap.size) 25 #[.int .u64 S, .int .i64 (N : Int), .slice A n cap]) := KB_bx_4.out.since (bel_alloc _ _)
      have KB_x_5 : Hid (Blk (v1.alloc (.cells #[.int .u64 0, .int .i64 0, .slice none 0 0] 25)) (gx) 30 #[.int .u64 S, .int .i64 (N : Int), .slice A n cap]) := KB_x_4.out.since (bel_alloc _ _)
      clear BEL4 KB_bx_4 KB_x_4
      have KB_g_5 : Hid (Blk (v1.alloc (.cells #[.int .u64 0, .int .i64 0, .slice none 0 0] 25)) (v1.heap.size) 25 #[.int .u64 0, .int .i64 0, .slice none 0 0]) := Blk.new _ _ _
      go_simp
      generalize (v1.alloc (.cells #[.int .u64 0, .int .i64 0, .slice none 0 0] 25)) = v6 at BEL5 KB_bx_5 KB_x_5 KB_g_5 ⊢
      generalize v1.heap.size = gg at GE_g KB_g_5 NE_bx_g NE_x_g ⊢
      refine hK.out _ _ (by exact KB_bx_5.out) (fun hHeld => ?_)
      clear hK K hHeld
      refine wpAnyH_ready (rs := [2]) (by kernel_rfl) (by simp) ?_
      refine AllReadyH.cons rfl (fun K hK => ?_) ?_
      · go_simp
        refine (add_any _ _ S (N : Int) n _ s (BA.out.keep (keep_of_below BEL5.out)) uS (by omega) (by omega)).mono ?_
        rintro e qg ⟨xg, rfl, fg, bb⟩
        have BEL6 : Hid (Below w.heap.size w qg) := bel_trans BEL5.out bb
        have KB_bx_6 : Hid (Blk qg (w.heap.size) 25 #[.int .u64 S, .int .i64 (N : Int), .slice A n cap]) := KB_bx_5.out.since bb
        have KB_x_6 : Hid (Blk qg (gx) 30 #[.int .u64 S, .int .i64 (N : Int), .slice A n cap]) := KB_x_5.out.since bb
        have KB_g_6 : Hid (Blk qg (gg) 25 #[.int .u64 0, .int .i64 0, .slice none 0 0]) := KB_g_5.out.since bb
        clear BEL5 KB_bx_5 KB_x_5 KB_g_5
        clear bb
        have FA_g_6 : Hid (FilterAt qg (xg) S (N : Int) n (addB S (N : Int) n B s)) := fg
        obtain ⟨vg, rfl, Ag, cg, bbg, oog, rfl, hx1, hx2, hx3⟩ := fg
        clear hx1 hx2 hx3
        go_wp2_with fail
        refine hK.out _ _ (by exact KB_bx_6.out) (fun hHeld => ?_)
        clear hK K hHeld
        refine wpAnyH_ready (rs := [5]) (by kernel_rfl) (by simp) ?_
        refine AllReadyH.cons rfl (fun K hK => ?_) ?_
        · go_simp
          refine (places_made _ _ S (N : Int) n _ s (BA.out.keep (keep_of_below BEL6.out)) uS (by omega)).mono ?_
          rintro e qp ⟨vp, rfl, hp, bb, fr⟩
          rw [KE.out] at hp fr
          obtain ⟨bp, op, cp, rfl, fr2⟩ := fr (by omega)
          have NE_pl_g : Hid (bp ≠ gg) := Nat.ne_of_gt (Nat.lt_of_lt_of_le KB_g_6.out.lt fr2)
          have hpl : PlIn qp bp op N (placeN S s n) := by
            obtain ⟨A1, cap1, b1, o1, e1, e2, e3, e4⟩ := hp
            cases e1
            cases e3 (by omega)
            exact ⟨e4⟩
          have BEL7 : Hid (Below w.heap.size w qp) := bel_trans BEL6.out bb
          have FA_g_7 : Hid (FilterAt qp (.agg #[.int .u64 S, .int .i64 (N : Int), .slice Ag n cg]) S (N : Int) n (addB S (N : Int) n B s)) := FA_g_6.out.keep (keep_of_below bb)
          have KB_bx_7 : Hid (Blk qp (w.heap.size) 25 #[.int .u64 S, .int .i64 (N : Int), .slice A n cap]) := KB_bx_6.out.since bb
          have KB_x_7 : Hid (Blk qp (gx) 30 #[.int .u64 S, .int .i64 (N : Int), .slice A n cap]) := KB_x_6.out.since bb
          have KB_g_7 : Hid (Blk qp (gg) 25 #[.int .u64 0, .int .i64 0, .slice none 0 0]) := KB_g_6.out.since bb
          clear BEL6 FA_g_6 KB_bx_6 KB_x_6 KB_g_6
          clear bb fr fr2 hp
          have EX_pl_7 : Hid (PlIn qp bp op N (placeN S s n)) := hpl
          clear hpl
          go_wp2_with fail
          refine hK.out _ _ (by exact KB_bx_7.out) (fun hHeld => ?_)
          clear hK K hHeld
          refine wpAnyH_ready (rs := [7]) (by kernel_rfl) (by simp) ?_
          refine AllReadyH.cons rfl (fun K hK => ?_) ?_
          rotate_left
          · exact AllReadyH.nil
          have cx0 : qp.cell? ⟨gg, 0, none⟩ = some (.int .u64 0) := KB_g_7.out.cell 0
          have cf0 := KB_g_7.out.frozen 0
          have cx1 : qp.cell? ⟨gg, 1, none⟩ = some (.int .i64 0) := KB_g_7.out.cell 1
          have cf1 := KB_g_7.out.frozen 1
          have cx2 : qp.cell? ⟨gg, 2, none⟩ = some (.slice none 0 0) := KB_g_7.out.cell 2
          have cf2 := KB_g_7.out.frozen 2
          go_simp
          clear cx0 cf0 cx1 cf1 cx2 cf2
          obtain ⟨v7, hvv7⟩ : ∃ q, q = (((qp.setCell ⟨gg, 0, none⟩ (.int .u64 S)).setCell ⟨gg, 1, none⟩ (.int .i64 (N : Int))).setCell ⟨gg, 2, none⟩ (.slice Ag n cg)) := ⟨_, rfl⟩
          rw [← hvv7]
          have BEL8 : Hid (Below w.heap.size w v7) := by rw [hvv7]; exact put3_below BEL7.out GE_g.out _ _ _
          have FA_g_8 : Hid (FilterAt v7 (.agg #[.int .u64 S, .int .i64 (N : Int), .slice Ag n cg]) S (N : Int) n (addB S (N : Int) n B s)) := by rw [hvv7]; exact filter_put FA_g_7.out KB_g_7.out _ _ _
          have KB_bx_8 : Hid (Blk v7 (w.heap.size) 25 #[.int .u64 S, .int .i64 (N : Int), .slice A n cap]) := by rw [hvv7]; exact put3_other KB_bx_7.out (by first | exact NE_bx_g.out | exact NE_g_bx.out.symm) _ _ _
          have KB_x_8 : Hid (Blk v7 (gx) 30 #[.int .u64 S, .int .i64 (N : Int), .slice A n cap]) := by rw [hvv7]; exact put3_other KB_x_7.out (by first | exact NE_x_g.out | exact NE_g_x.out.symm) _ _ _
          have KB_g_8 : Hid (Blk v7 (gg) 25 #[.int .u64 S, .int .i64 (N : Int), .slice Ag n cg]) := by rw [hvv7]; exact put3_blk KB_g_7.out _ _ _
          have EX_pl_8 : Hid (PlIn v7 bp op N (placeN S s n)) := by rw [hvv7]; exact plin_put EX_pl_7.out NE_pl_g.out _ _ _
          clear hvv7 BEL7 FA_g_7 KB_bx_7 KB_x_7 KB_g_7 EX_pl_7
          refine hK.out _ _ (by exact KB_bx_8.out) (fun hHeld => ?_)
          clear hK K hHeld
          refine wpAnyH_take (i := 8) (v := ?_) rfl (by kernel_rfl) (by kernel_rfl) (by kernel_rfl) (fun _ _ _ h => h) (Or.inl ⟨by rfl, ?_⟩) KB_bx_8.out ?_
          rotate_left
          · intro w hSw; go_simp; first | done | with_reducible rfl
          simp only [List.getElem_toArray, List.getElem_cons_zero, List.getElem_cons_succ, Act.put, List.setIfInBounds_toArray, List.set_cons_zero, List.set_cons_succ]
          refine wpAnyH_done (by kernel_rfl) ?_ _
          refine NoPanic.normal ?_
          go_wp2_with fail
          go_meet
          case rel => exact ⟨gg, Ag, cg, bp, op, cp, ⟨rfl, rfl⟩, ⟨BEL8.out, KB_bx_8.out, KB_x_8.out, KB_g_8.out, FA_g_8.out⟩, EX_pl_8.out⟩
        exact AllReadyH.nil
      exact AllReadyH.nil
    exact AllReadyH.nil
  case rest =>
    obtain ⟨gg, Ag, cg, bp, op, cp, ⟨rfl, rfl⟩, T, hpl⟩ := hcut
    have BEL90 : Hid (Below w.heap.size w wc) := T.since
    have FA_g_90 : Hid (FilterAt wc (.agg #[.int .u64 S, .int .i64 (N : Int), .slice Ag n cg]) S (N : Int) n (addB S (N : Int) n B s)) := T.fg
    have KB_bx_90 : Hid (Blk wc (w.heap.size) 25 #[.int .u64 S, .int .i64 (N : Int), .slice A n cap]) := T.bx
    have KB_x_90 : Hid (Blk wc (gx) 30 #[.int .u64 S, .int .i64 (N : Int), .slice A n cap]) := T.xx
    have KB_g_90 : Hid (Blk wc (gg) 25 #[.int .u64 S, .int .i64 (N : Int), .slice Ag n cg]) := T.gx
    have EX_pl_90 : Hid (PlIn wc bp op N (placeN S s n)) := hpl
    have FA_a_90 : Hid (FilterAt wc (.agg #[.int .u64 S, .int .i64 (N : Int), .slice A n cap]) S (N : Int) n B) := BA.out.keep (keep_of_below BEL90.out)
    clear T hpl BEL3 KB_bx_3 KB_x_3 NXB
    have CE_bx_0 : wc.cell? ⟨w.heap.size, 0, none⟩ = some (.int .u64 S) := KB_bx_90.out.cell 0
    have CE_bx_1 : wc.cell? ⟨w.heap.size, 1, none⟩ = some (.int .i64 (N : Int)) := KB_bx_90.out.cell 1
    have CE_bx_2 : wc.cell? ⟨w.heap.size, 2, none⟩ = some (.slice A n cap) := KB_bx_90.out.cell 2
    have CE_bx_lt : w.heap.size < wc.heap.size := KB_bx_90.out.lt
    go_wp2_with fail
    clear CE_bx_0 CE_bx_1 CE_bx_2 CE_bx_lt
    go_loop [8, 39] (fun x y => ∃ k T : Nat, (k ≤ n ∧ T = cntB B k) ∧ x = .int .i64 (T : Int) ∧ y = .int .i64 (k : Int)) (fun _ y => n - (intOf y).toNat)
    case atStart => exact ⟨0, 0, ⟨by omega, rfl⟩, rfl, rfl⟩
    case round =>
      obtain ⟨k, T, ⟨hk, hT⟩, rfl, rfl⟩ := hrel
      have HT : Hid (T = cntB B k) := hT
      have t1 : T ≤ 300 := by have := cntB_le B k; omega
      clear hT
      by_cases hlt : k < n
      · obtain rfl := Q3.out (by omega)
        have cp := keep_of_below BEL90.out _ _ (Q4.out k hlt)
        have hb1 : (k : Int) < (n : Int) := by omega
        by_cases hB : B k = true
        · rw [hB] at cp
          have HB : Hid (B k = true) := hB
          clear hB
          go_wp2_with fail
          go_round
          case rel => exact ⟨k + 1, T + 1, ⟨by omega, by rw [cntB, if_pos HB.out, ← HT.out]⟩, by go_num, by go_num⟩
          case measure => simp [intOf]; omega
        · have hB' : B k = false := by simpa using hB
          rw [hB'] at cp
          have HB : Hid (¬ B k = true) := hB
          clear hB hB'
          go_wp2_with fail
          go_round
          case rel => exact ⟨k + 1, T, ⟨by omega, by rw [cntB, if_neg HB.out, ← HT.out]; rfl⟩, rfl, by go_num⟩
          case measure => simp [intOf]; omega
      · obtain rfl : n = k := by omega
        have b1 : ¬ (n : Int) < (n : Int) := by omega
        clear hlt hk
        have CE_x_0 : wc.cell? ⟨gx, 0, none⟩ = some (.int .u64 S) := KB_x_90.out.cell 0
        have CE_x_1 : wc.cell? ⟨gx, 1, none⟩ = some (.int .i64 (N : Int)) := KB_x_90.out.cell 1
        have CE_x_2 : wc.cell? ⟨gx, 2, none⟩ = some (.slice A n cap) := KB_x_90.out.cell 2
        have CE_x_lt : gx < wc.heap.size := KB_x_90.out.lt
        go_wp2_with fail
        refine (rright_any _ _ S (N : Int) n _ FA_a_90.out).mono ?_
        rintro e wq ⟨rfl, b9⟩
        clear CE_x_0 CE_x_1 CE_x_2 CE_x_lt
        have BEL91 : Hid (Below w.heap.size w wq) := bel_trans BEL90.out b9
        have FA_g_91 : Hid (FilterAt wq (.agg #[.int .u64 S, .int .i64 (N : Int), .slice Ag n cg]) S (N : Int) n (addB S (N : Int) n B s)) := FA_g_90.out.keep (keep_of_below b9)
        have FA_a_91 : Hid (FilterAt wq (.agg #[.int .u64 S, .int .i64 (N : Int), .slice A n cap]) S (N : Int) n B) := FA_a_90.out.keep (keep_of_below b9)
        have KB_bx_91 : Hid (Blk wq (w.heap.size) 25 #[.int .u64 S, .int .i64 (N : Int), .slice A n cap]) := KB_bx_90.out.since b9
        have KB_x_91 : Hid (Blk wq (gx) 30 #[.int .u64 S, .int .i64 (N : Int), .slice A n cap]) := KB_x_90.out.since b9
        have KB_g_91 : Hid (Blk wq (gg) 25 #[.int .u64 S, .int .i64 (N : Int), .slice Ag n cg]) := KB_g_90.out.since b9
        have EX_pl_91 : Hid (PlIn wq bp op N (placeN S s n)) := EX_pl_90.out.keep (keep_of_below b9)
        clear BEL90 FA_g_90 FA_a_90 KB_bx_90 KB_x_90 KB_g_90 EX_pl_90
        clear b9
        rw [HF.out]
        clear b1 Q3 Q4
        have CE_bx_0 : wq.cell? ⟨w.heap.size, 0, none⟩ = some (.int .u64 S) := KB_bx_91.out.cell 0
        have CE_bx_1 : wq.cell? ⟨w.heap.size, 1, none⟩ = some (.int .i64 (N : Int)) := KB_bx_91.out.cell 1
        have CE_bx_2 : wq.cell? ⟨w.heap.size, 2, none⟩ = some (.slice A n cap) := KB_bx_91.out.cell 2
        have CE_bx_lt : w.heap.size < wq.heap.size := KB_bx_91.out.lt
        go_wp2_with fail
        clear CE_bx_0 CE_bx_1 CE_bx_2 CE_bx_lt
        go_loopg [85] N (fun gk i wr => ∃ k : Nat, (gk = N - k ∧ k ≤ N ∧ Below wq.heap.size wq wr) ∧ i = .int .i64 (k : Int))
        case atStart => exact ⟨0, ⟨rfl, by omega, Below.refl _ _⟩, rfl⟩
        case round =>
          obtain ⟨k, ⟨hg, hk, hb⟩, rfl⟩ := hrel
          have HK : Hid (gk = N - k ∧ Below wq.heap.size wq wr) := ⟨hg, hb⟩
          clear hg
          by_cases hlt : k < N
          · have c1 := (EX_pl_91.out.keep (keep_of_below hb)).cell k hlt
            have b1 : (k : Int) < (N : Int) := by omega
            have PE : Hid (cellF (rowF S k) s n = (placeN S s n k : Int)) := placeN_eq S s n k n1
            have KB : Blk wr w.heap.size 25 #[.int .u64 S, .int .i64 (N : Int), .slice A n cap] := KB_bx_91.out.since hb
            have x0 : wr.cell? ⟨w.heap.size, 0, none⟩ = some (.int .u64 S) := KB.cell 0
            have x2 : wr.cell? ⟨w.heap.size, 2, none⟩ = some (.slice A n cap) := KB.cell 2
            have KS : Hid (∀ w' : World, Below wr.heap.size wr w' → (w'.cell? ⟨w.heap.size, 0, none⟩ = some (.int .u64 S) ∧ w'.cell? ⟨w.heap.size, 2, none⟩ = some (.slice A n cap))) := fun w' b1 => ⟨(KB.since b1).cell 0, (KB.since b1).cell 2⟩
            have Z0 : Hid (Below wr.heap.size wr wr.drew) := (Below.refl _ _).drew
            have RW : Hid (∀ w1, Below wr.heap.size wr w1 → Calls Try.prog 21 #[.int .u64 S, .int .i64 (k : Int)] w1 fun e w' => e = .returned (.int .u64 (rowF S k)) ∧ Below wr.heap.size wr w') := fun w1 b1 => (rrow_any S k w1 uS (by omega)).mono fun e w' h => ⟨h.1, bel_trans b1 (by rw [h.2]; exact Below.refl _ _)⟩
            have RC : Hid (∀ w1, Below wr.heap.size wr w1 → Calls Try.prog 20 #[.int .u64 (rowF S k), .string s, .int .i64 (n : Int)] w1 fun e w' => e = .returned (.int .i64 (placeN S s n k : Int)) ∧ Below wr.heap.size wr w') := fun w1 b1 => (rcell_any (rowF S k) s n w1 (rowF_U S k) (by omega) n1 (by omega)).mono fun e w' h => ⟨by rw [h.1, PE.out], bel_trans b1 h.2⟩
            clear PE KB hb
            generalize placeN S s n k = P at c1 RC
            generalize rowF S k = R at RW RC
            go_wp2_with fail
            go_region_held3 (fun w' => w'.cell? ⟨w.heap.size, 0, none⟩ = some (.int .u64 S) ∧ w'.cell? ⟨w.heap.size, 2, none⟩ = some (.slice A n cap)) (first | go_keep | exact KS.out _ Z2.out | exact KS.out _ Z1.out) (first
              | (have fl := Z1; clear fl; go_simp; go_at_call 20; refine (RC.out _ Z1.out).mono ?_; rintro e q2 ⟨rfl, cc⟩; have Z2 : Hid (Below wr.heap.size wr q2) := cc; clear cc)
              | (have fl := Z0; clear fl; go_simp; go_at_call 21; refine (RW.out _ Z0.out).mono ?_; rintro e q1 ⟨rfl, cc⟩; have Z1 : Hid (Below wr.heap.size wr q1) := cc; clear cc))
            all_goals go_wp2_with fail
            all_goals go_roundg (N - (k + 1))
            all_goals first | (have := HK.out.1; omega) | exact ⟨k + 1, ⟨rfl, by omega, bel_trans HK.out.2 Z2.out⟩, by go_num⟩
          · have b1 : ¬ (k : Int) < (N : Int) := by omega
            clear hb
            have BEL92 : Hid (Below w.heap.size w wr) := bel_trans BEL91.out HK.out.2
            have FA_g_92 : Hid (FilterAt wr (.agg #[.int .u64 S, .int .i64 (N : Int), .slice Ag n cg]) S (N : Int) n (addB S (N : Int) n B s)) := FA_g_91.out.keep (keep_of_below HK.out.2)
            have FA_a_92 : Hid (FilterAt wr (.agg #[.int .u64 S, .int .i64 (N : Int), .slice A n cap]) S (N : Int) n B) := FA_a_91.out.keep (keep_of_below HK.out.2)
            have KB_bx_92 : Hid (Blk wr (w.heap.size) 25 #[.int .u64 S, .int .i64 (N : Int), .slice A n cap]) := KB_bx_91.out.since HK.out.2
            have KB_x_92 : Hid (Blk wr (gx) 30 #[.int .u64 S, .int .i64 (N : Int), .slice A n cap]) := KB_x_91.out.since HK.out.2
            have KB_g_92 : Hid (Blk wr (gg) 25 #[.int .u64 S, .int .i64 (N : Int), .slice Ag n cg]) := KB_g_91.out.since HK.out.2
            have EX_pl_92 : Hid (PlIn wr bp op N (placeN S s n)) := EX_pl_91.out.keep (keep_of_below HK.out.2)
            clear BEL91 FA_g_91 FA_a_91 KB_bx_91 KB_x_91 KB_g_91 EX_pl_91
            have RR : Hid (∀ w1, Below wr.heap.size wr w1 → Calls Try.prog 14 #[.agg #[.int .u64 S, .int .i64 (N : Int), .slice A n cap]] w1 fun e w' => e = .returned (.bool true) ∧ Below wr.heap.size wr w') := fun w1 b1 => (right_any w1 _ S (N : Int) n _ (FA_a_92.out.keep (keep_of_below b1))).mono fun e w' h => ⟨by rw [h.1, HF.out], bel_trans b1 h.2⟩
            have RG : Hid (∀ w1, Below wr.heap.size wr w1 → Calls Try.prog 11 #[.agg #[.int .u64 S, .int .i64 (N : Int), .slice Ag n cg]] w1 fun e w' => e = .returned (.agg #[.int .u64 S, .int .i64 (N : Int), .slice Ag n cg]) ∧ Below wr.heap.size wr w') := fun w1 b1 => (ref_any w1 _ S (N : Int) n _ (FA_g_92.out.keep (keep_of_below b1))).mono fun e w' h => ⟨h.1, bel_trans b1 h.2⟩
            have RA : Hid (∀ w1, Below wr.heap.size wr w1 → Calls Try.prog 22 #[.agg #[.int .u64 S, .int .i64 (N : Int), .slice A n cap], .string s] w1 fun e w' => ∃ yv, e = .returned yv ∧ FilterAt w' yv S (N : Int) n (addB S (N : Int) n B s) ∧ Below wr.heap.size wr w') := fun w1 b1 => (radd_filter w1 _ S (N : Int) n _ s (FA_a_92.out.keep (keep_of_below b1)) uS (by omega) HF.out).mono fun e w' ⟨yv, h1, h2, h3⟩ => ⟨yv, h1, h2, bel_trans b1 h3⟩
            have E1 : Hid (∀ w1 yv, Below wr.heap.size wr w1 → FilterAt w1 yv S (N : Int) n (addB S (N : Int) n B s) → Calls Try.prog 10 #[.agg #[.int .u64 S, .int .i64 (N : Int), .slice Ag n cg], yv] w1 fun e w' => e = .returned (.bool true) ∧ Below wr.heap.size wr w') := fun w1 yv b1 hy => (requal_any w1 _ _ S (N : Int) S (N : Int) n n _ _ (FA_g_92.out.keep (keep_of_below b1)) hy (by omega)).mono fun e w' h => ⟨(told h true ⟨fun _ => ⟨rfl, rfl, rfl, fun i hi => rfl⟩, fun _ => rfl⟩).1, bel_trans b1 (told h true ⟨fun _ => ⟨rfl, rfl, rfl, fun i hi => rfl⟩, fun _ => rfl⟩).2⟩
            obtain ⟨b, hb⟩ : ∃ b : Bool, b = true ↔ HasN B (placeN S s n) (kN n (N : Int)) := by
              by_cases hh : HasN B (placeN S s n) (kN n (N : Int))
              · exact ⟨true, fun _ => hh, fun _ => rfl⟩
              · exact ⟨false, fun h => (by cases h), fun h => absurd h hh⟩
            have hb2 : b = true ↔ hasB n (N : Int) B (placeN S s n) := hb.trans ⟨fun h => ⟨HF.out, h⟩, fun h => h.2⟩
            have HA : Hid (∀ w1, Below wr.heap.size wr w1 → Calls Try.prog 19 #[.agg #[.int .u64 S, .int .i64 (N : Int), .slice A n cap], .string s] w1 fun e w' => e = .returned (.bool b) ∧ Below wr.heap.size wr w') := fun w1 b1 => (has_any w1 _ S (N : Int) n _ s (FA_a_92.out.keep (keep_of_below b1)) uS (by omega)).mono fun e w' h => ⟨(told h b hb2).1, bel_trans b1 (told h b hb2).2⟩
            have HR : Hid (∀ w1, Below wr.heap.size wr w1 → Calls Try.prog 23 #[.agg #[.int .u64 S, .int .i64 (N : Int), .slice A n cap], .string s] w1 fun e w' => e = .returned (.bool b) ∧ Below wr.heap.size wr w') := fun w1 b1 => (rhas_any w1 _ S (N : Int) n _ s (FA_a_92.out.keep (keep_of_below b1)) uS (by omega) HF.out).mono fun e w' h => ⟨(told h b hb).1, bel_trans b1 (told h b hb).2⟩
            have SE : Hid (setB n (N : Int) B = T) := (if_pos HF.out).trans HT.out.symm
            have SA : Hid (∀ w1, Below wr.heap.size wr w1 → Calls Try.prog 15 #[.agg #[.int .u64 S, .int .i64 (N : Int), .slice A n cap]] w1 fun e w' => e = .returned (.int .i64 (T : Int)) ∧ Below wr.heap.size wr w') := fun w1 b1 => (set_any w1 _ S (N : Int) n _ (FA_a_92.out.keep (keep_of_below b1))).mono fun e w' h => ⟨by rw [h.1, SE.out], bel_trans b1 h.2⟩
            have WA : Hid (∀ w1, Below wr.heap.size wr w1 → Calls Try.prog 12 #[] w1 fun e w' => e = .returned (.bool true) ∧ Below wr.heap.size wr w') := fun w1 b1 => (awake_any w1).mono fun e w' h => ⟨h.1, bel_trans b1 h.2⟩
            have KS : Hid (∀ w' : World, Below wr.heap.size wr w' → (w'.cell? ⟨w.heap.size, 0, none⟩ = some (.int .u64 S) ∧ w'.cell? ⟨w.heap.size, 1, none⟩ = some (.int .i64 (N : Int)) ∧ w'.cell? ⟨w.heap.size, 2, none⟩ = some (.slice A n cap) ∧ w'.cell? ⟨gg, 0, none⟩ = some (.int .u64 S) ∧ w'.cell? ⟨gg, 1, none⟩ = some (.int .i64 (N : Int)) ∧ w'.cell? ⟨gg, 2, none⟩ = some (.slice Ag n cg) ∧ w'.cell? ⟨gx, 0, none⟩ = some (.int .u64 S) ∧ w'.cell? ⟨gx, 1, none⟩ = some (.int .i64 (N : Int)) ∧ w'.cell? ⟨gx, 2, none⟩ = some (.slice A n cap))) := fun w' b1 => ⟨(KB_bx_92.out.since b1).cell 0, (KB_bx_92.out.since b1).cell 1, (KB_bx_92.out.since b1).cell 2, (KB_g_92.out.since b1).cell 0, (KB_g_92.out.since b1).cell 1, (KB_g_92.out.since b1).cell 2, (KB_x_92.out.since b1).cell 0, (KB_x_92.out.since b1).cell 1, (KB_x_92.out.since b1).cell 2⟩
            have Z0 : Hid (Below wr.heap.size wr wr.drew) := (Below.refl _ _).drew
            have CE_bx_0 : wr.cell? ⟨w.heap.size, 0, none⟩ = some (.int .u64 S) := KB_bx_92.out.cell 0
            have CE_bx_1 : wr.cell? ⟨w.heap.size, 1, none⟩ = some (.int .i64 (N : Int)) := KB_bx_92.out.cell 1
            have CE_bx_2 : wr.cell? ⟨w.heap.size, 2, none⟩ = some (.slice A n cap) := KB_bx_92.out.cell 2
            have CE_bx_lt : w.heap.size < wr.heap.size := KB_bx_92.out.lt
            have CE_x_0 : wr.cell? ⟨gx, 0, none⟩ = some (.int .u64 S) := KB_x_92.out.cell 0
            have CE_x_1 : wr.cell? ⟨gx, 1, none⟩ = some (.int .i64 (N : Int)) := KB_x_92.out.cell 1
            have CE_x_2 : wr.cell? ⟨gx, 2, none⟩ = some (.slice A n cap) := KB_x_92.out.cell 2
            have CE_x_lt : gx < wr.heap.size := KB_x_92.out.lt
            have CE_g_0 : wr.cell? ⟨gg, 0, none⟩ = some (.int .u64 S) := KB_g_92.out.cell 0
            have CE_g_1 : wr.cell? ⟨gg, 1, none⟩ = some (.int .i64 (N : Int)) := KB_g_92.out.cell 1
            have CE_g_2 : wr.cell? ⟨gg, 2, none⟩ = some (.slice Ag n cg) := KB_g_92.out.cell 2
            have CE_g_lt : gg < wr.heap.size := KB_g_92.out.lt
            clear FA_a_92 FA_g_92 EX_pl_92 SE HT hb hb2 PL
            go_wp2_with fail
            go_region_held3 (fun w' => w'.cell? ⟨w.heap.size, 0, none⟩ = some (.int .u64 S) ∧ w'.cell? ⟨w.heap.size, 1, none⟩ = some (.int .i64 (N : Int)) ∧ w'.cell? ⟨w.heap.size, 2, none⟩ = some (.slice A n cap) ∧ w'.cell? ⟨gg, 0, none⟩ = some (.int .u64 S) ∧ w'.cell? ⟨gg, 1, none⟩ = some (.int .i64 (N : Int)) ∧ w'.cell? ⟨gg, 2, none⟩ = some (.slice Ag n cg) ∧ w'.cell? ⟨gx, 0, none⟩ = some (.int .u64 S) ∧ w'.cell? ⟨gx, 1, none⟩ = some (.int .i64 (N : Int)) ∧ w'.cell? ⟨gx, 2, none⟩ = some (.slice A n cap)) (first | go_keep | exact KS.out _ Z8.out | exact KS.out _ Z7.out | exact KS.out _ Z6.out | exact KS.out _ Z5.out | exact KS.out _ Z4.out | exact KS.out _ Z3.out | exact KS.out _ Z2.out | exact KS.out _ Z1.out) (first
              | (have fl := Z7; clear fl; go_simp; go_at_call 12; refine (WA.out _ Z7.out).mono ?_; rintro e q8 ⟨rfl, cc⟩; have Z8 : Hid (Below wr.heap.size wr q8) := cc; clear cc)
              | (have fl := Z6; clear fl; go_simp; go_at_call 15; refine (SA.out _ Z6.out).mono ?_; rintro e q7 ⟨rfl, cc⟩; have Z7 : Hid (Below wr.heap.size wr q7) := cc; clear cc)
              | (have fl := Z5; clear fl; go_simp; go_at_call 23; refine (HR.out _ Z5.out).mono ?_; rintro e q6 ⟨rfl, cc⟩; have Z6 : Hid (Below wr.heap.size wr q6) := cc; clear cc)
              | (have fl := Z4; clear fl; go_simp; go_at_call 19; refine (HA.out _ Z4.out).mono ?_; rintro e q5 ⟨rfl, cc⟩; have Z5 : Hid (Below wr.heap.size wr q5) := cc; clear cc)
              | (have fl := Z3; clear fl; go_simp; go_at_call 10; refine (E1.out _ _ Z3.out FY.out).mono ?_; rintro e q4 ⟨rfl, cc⟩; have Z4 : Hid (Below wr.heap.size wr q4) := cc; clear cc)
              | (have fl := Z2; clear fl; go_simp; go_at_call 22; refine (RA.out _ Z2.out).mono ?_; rintro e q3 ⟨yv, rfl, fy, cc⟩; have Z3 : Hid (Below wr.heap.size wr q3) := cc; have FY : Hid (FilterAt q3 yv S (N : Int) n (addB S (N : Int) n B s)) := fy; clear fy; clear cc)
              | (have fl := Z1; clear fl; go_simp; go_at_call 11; refine (RG.out _ Z1.out).mono ?_; rintro e q2 ⟨rfl, cc⟩; have Z2 : Hid (Below wr.heap.size wr q2) := cc; clear cc)
              | (have fl := Z0; clear fl; go_simp; go_at_call 14; refine (RR.out _ Z0.out).mono ?_; rintro e q1 ⟨rfl, cc⟩; have Z1 : Hid (Below wr.heap.size wr q1) := cc; clear cc))
            all_goals go_wp2_with fail
            all_goals go_ret
            all_goals exact ⟨by simp, bel_trans BEL92.out Z8.out⟩

/-! ### The row -/
theorem laidOut : laidOutB Try.prog = true := by kernel_rfl
set_option maxRecDepth 100000 in
theorem lifted (os : Os) (started : os.Started) (H : Type) (enc : TypeId × Value → H) :
    ReturnsInHanded {} Try.checked os 4 .any (Rows.bloomTurnsSpec.pre6 enc Try.prog Try.f4 Rows.bloomTurnsRow.domain false) (Rows.bloomTurnsSpec.post enc Try.prog Try.f4 false true false false) := by
  refine returnsInHanded_of_change (C := Try.checked) own started (by kernel_rfl) Try.func4
    (ChangeSpec.witness6 (enc := enc) (C := Try.checked) false ⟨#[], #[.agg #[.int .u64 0, .int .i64 0, .slice none 0 0], .string ⟨#[]⟩], []⟩ 8 (by kernel_rfl) (by kernel_rfl) (by kernel_rfl) (by kernel_rfl)) ?_
  intro W base args ds gs before hval0 hW hcnd _
  have hval : ∀ (j : Nat) t v, Try.f4.params[j]? = some t → args[j]? = some v → Value.okWide Try.prog W .any base t v := hval0
  have hW' := hW
  obtain ⟨p, q, hA0, hV, rfl, hfz, hnd⟩ := hW
  have hA : DataW.TrodAll enc Try.prog W 0 (fun _ => true) true Try.f4.params.toList args.toList ds p := hA0
  rw [Try.params4] at hA hval
  obtain ⟨v0, vs0, d0, ds0, p0, q0, hargs, rfl, rfl, h0, r0⟩ := trodAll_cons hA
  obtain ⟨v1, vs1, d1, ds1, p1, q1, rfl, rfl, rfl, h1, r1⟩ := trodAll_cons r0
  obtain ⟨rfl, rfl, rfl⟩ := trodAll_nil r1
  obtain rfl : args = #[v0, v1] := by cases args; simp_all
  obtain ⟨rfl, rfl⟩ := trodVars_none hV
  have k0 := h0
  have lt0 : ∀ x ∈ p0, x.block < W.heap.size := by obtain ⟨m, hm⟩ := k0; exact DataW.trod_lt m _ _ _ hm
  obtain ⟨F0, w0⟩ := open_filter (hval 0 25 v0 rfl rfl) h0
  obtain ⟨a1, rfl, rfl, rfl, w1⟩ := open_string Try.underlying9 (hval 1 9 v1 rfl rfl) h1
  clear hA0 hval0
  refine (walk v0 F0 a1 W w0 w1).mono fun e W' ⟨he, bel⟩ => ?_
  subst he
  exact ⟨_, rfl, _, _, _, [], _, [], hW', trodAll_mk1 (shut_bool Try.underlying4 _), (trodAll_cons_mk (Below.trod laidOut (by kernel_rfl) (of_decide_eq_true (by kernel_rfl)) k0 bel lt0) (trodAll_cons_mk (shut_string Try.underlying9 w1) trodAll_mk0)), rfl, bel.frame _, fun h => by cases h⟩

theorem over : Rows.bloomTurnsRow.holds Try.pinned (OpenSpec.ofChange Rows.bloomTurnsSpec) :=
  OpenClaim.holds_of_wide 4 Try.f4 rfl rfl rfl rfl rfl rfl rfl ⟨rfl, rfl, rfl, rfl, rfl⟩ rfl rfl rfl rfl rfl (by kernel_rfl) Try.func4 (by kernel_rfl)
    (of_decide_eq_true (by kernel_rfl)) (by unfold Func.isWrapper; first | (rw [if_pos (by decide +kernel)]; kernel_rfl) | (rw [if_neg (by decide +kernel)]; exact ⟨rfl, rfl⟩))
    (fun os started H enc _ => lifted os started H enc)

theorem proved : Rows.BloomTurnsSaid := over
end Go.Proofs.Ytbnjicbmainopaa.bloomTurns
namespace Go.Proofs.Ytbnjicbmainopaa
theorem bloomTurns_holds : Rows.BloomTurnsSaid := bloomTurns.proved
#print axioms bloomTurns_holds
end Go.Proofs.Ytbnjicbmainopaa
