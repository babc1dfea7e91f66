
/-
  BloomKeeps: a filter has each key that was added, whatever came behind; the order does not matter; two filters merged are one to which all was added. No condition.
-/
import Derived.Test.YtbnjicbmainopaaRows
import Derived.Test.YtbnjicbmainopaaBlmAwake
import Derived.Test.YtbnjicbmainopaaBlmRef
import Derived.Test.YtbnjicbmainopaaBlmMerge
import Derived.WalkKit
import Derived.ProofKit
import Derived.OpenShut
import Derived.ShutString
import Derived.ChangeOld
import Derived.ChangeMaps5
import Derived.Below
import Derived.Carry
import Derived.Laws.StructEq
import Derived.BigQuiet
import Derived.Deep.Cut
import Derived.Deep.CutRange
import Derived.Deep.RegionHeld
namespace Go.Proofs.Ytbnjicbmainopaa.bloomKeeps
open Fm Bl L2 Go.Deep
open Go.ChangeShapes Go.WideShapes Go.ChangeAt Go.RowKit Go.ChangeMaps
set_option linter.unusedVariables false

theorem own : ownKnob Try.prog.godebug = none := by kernel_rfl

/-- A filter stands where a box of other values is written. -/
theorem filter_put {w : World} {X : Nat} {t : TypeId} {S' H' : Int} {A : Option Addr} {m cap : Nat} {x : Value} {S H : Int} {n : Nat} {B : Nat → Bool} (h : FilterAt w x S H n B) (hX : Blk w X t #[.int .u64 S', .int .i64 H', .slice A m cap]) (a b c : Value) : FilterAt (put3 w X a b c) x S H n B := by
  obtain ⟨v, h1, h2⟩ := h
  exact ⟨v, h1, bools_put3 hX h2 a b c⟩
/-- Two filters in two boxes. -/
structure TwoIn (w wx : World) (gx gy : Nat) (S H : Int) (n : Nat) (Ax : Option Addr) (cx : Nat) (Ay : Option Addr) (cy : Nat) (B C : Nat → Bool) : Prop where
  since : Below w.heap.size w wx
  bx : Blk wx gx 25 #[.int .u64 S, .int .i64 H, .slice Ax n cx]
  yx : Blk wx gy 25 #[.int .u64 S, .int .i64 H, .slice Ay n cy]
  fx : FilterAt wx (.agg #[.int .u64 S, .int .i64 H, .slice Ax n cx]) S H n B
  fy : FilterAt wx (.agg #[.int .u64 S, .int .i64 H, .slice Ay n cy]) S H n C

theorem h_bel {w u u2 : World} (h : Hid (Below w.heap.size w u)) (b : Below u.heap.size u u2) : Hid (Below w.heap.size w u2) := bel_trans h.out b
theorem h_fil {u u2 : World} {x : Value} {S H : Int} {n : Nat} {B : Nat → Bool} (h : Hid (FilterAt u x S H n B)) (b : Below u.heap.size u u2) : Hid (FilterAt u2 x S H n B) := h.out.keep (keep_of_below b)
theorem h_blk {u u2 : World} {g : Nat} {t : TypeId} {cs : Array Value} (h : Hid (Blk u g t cs)) (b : Below u.heap.size u u2) : Hid (Blk u2 g t cs) := h.out.since b
theorem p_bel {w u q : World} {g : Nat} {a b c : Value} (e : q = put3 u g a b c) (h : Hid (Below w.heap.size w u)) (ge : Hid (w.heap.size ≤ g)) : Hid (Below w.heap.size w q) := by subst e; exact put3_below h.out ge.out a b c
theorem p_fil {u q : World} {g : Nat} {a b c : Value} (e : q = put3 u g a b c) {t : TypeId} {S' H' : Int} {A : Option Addr} {m cap : Nat} {x : Value} {S H : Int} {n : Nat} {B : Nat → Bool} (k : Hid (Blk u g t #[.int .u64 S', .int .i64 H', .slice A m cap])) (h : Hid (FilterAt u x S H n B)) : Hid (FilterAt q x S H n B) := by subst e; exact filter_put h.out k.out a b c
theorem p_blk {u q : World} {g : Nat} {a b c : Value} (e : q = put3 u g a b c) {t : TypeId} {x y z : Value} (k : Hid (Blk u g t #[x, y, z])) : Hid (Blk q g t #[a, b, c]) := by subst e; exact put3_blk k.out a b c
theorem p_oth {u q : World} {g X : Nat} {a b c : Value} (e : q = put3 u X a b c) {t : TypeId} {cs : Array Value} (h : Hid (Blk u g t cs)) (ne : Hid (g ≠ X)) : Hid (Blk q g t cs) := by subst e; exact put3_other h.out ne.out a b c
theorem n_sym {a b : Nat} (h : Hid (a ≠ b)) : Hid (b ≠ a) := h.out.symm

set_option maxRecDepth 8000 in
set_option maxHeartbeats 6400000 in
theorem walk (a0 a1 a2 : Int) (v3 : Value) (F3 : Lst) (v4 : Value) (F4 : Lst) (w : World) (w0 : (Lit.int .u64 a0).wf = true) (w1 : (Lit.int .i64 a1).wf = true) (w2 : (Lit.int .i64 a2).wf = true) (h3 : StrsIn w v3 F3) (h4 : StrsIn w v4 F4) :
    Calls Try.prog 6 #[.int .u64 a0, .int .i64 a1, .int .i64 a2, v3, v4] w fun e w' => e = .returned (.bool true) ∧ Below w.heap.size w w' := by
  have uS : U a0 := bounds_u64 w0
  obtain ⟨m, L⟩ := F3
  obtain ⟨hL, hm, hz⟩ := h3
  obtain ⟨p, M⟩ := F4
  obtain ⟨hM, hp, hy⟩ := h4
  simp only at hL hm hz hM hp hy
  obtain ⟨Al, capl, bl, ol, rfl, hx1, l3, l4⟩ := id hL
  obtain ⟨Ak, capm, bm, om, rfl, hx2, m3, m4⟩ := id hM
  have LA : Hid (StrsAt w (.slice Al m capl) m L) := hL
  have MA : Hid (StrsAt w (.slice Ak p capm) p M) := hM
  have L3 : Hid (0 < m → Al = some ⟨bl, ol, none⟩) := l3
  have L4 : Hid (∀ i, i < m → w.cell? ⟨bl, ol + i, none⟩ = some (.string (L i))) := l4
  have M3 : Hid (0 < p → Ak = some ⟨bm, om, none⟩) := m3
  have M4 : Hid (∀ i, i < p → w.cell? ⟨bm, om + i, none⟩ = some (.string (M i))) := m4
  clear hL hM hx1 hx2 l3 l4 m3 m4
  have BEL0 : Hid (Below w.heap.size w w) := Below.refl _ _
  go_enter Try.func6, Try.ntmps6
  go_wp2_with fail
  refine (short_any _ _ m L (LA.out.keep (keep_of_below BEL0.out)) hm hz).mono ?_
  rintro e ww1 ⟨bs, rfl, hbs, b1⟩
  have BEL1 : Hid (Below w.heap.size w ww1) := bel_trans BEL0.out b1
  clear BEL0
  clear b1
  cases bs
  · clear hbs
    go_wp2_with fail
    refine (awake_any _).mono ?_
    rintro e ww99 ⟨rfl, b9⟩
    have BEL2 : Hid (Below w.heap.size w ww99) := bel_trans BEL1.out b9
    clear BEL1
    clear b9
    go_wp2_with fail
    go_ret
    exact ⟨rfl, BEL2.out⟩
  obtain ⟨m30, hz1⟩ := hbs.1 rfl
  have HZ : Hid (∀ i, i < m → (L i).size ≤ 100) := hz1
  clear hbs hz hz1
  go_wp2_with fail
  refine (short_any _ _ p M (MA.out.keep (keep_of_below BEL1.out)) hp hy).mono ?_
  rintro e ww2 ⟨bs, rfl, hbs, b2⟩
  have BEL2 : Hid (Below w.heap.size w ww2) := bel_trans BEL1.out b2
  clear BEL1
  clear b2
  cases bs
  · clear hbs
    go_wp2_with fail
    refine (awake_any _).mono ?_
    rintro e ww99 ⟨rfl, b9⟩
    have BEL3 : Hid (Below w.heap.size w ww99) := bel_trans BEL2.out b9
    clear BEL2
    clear b9
    go_wp2_with fail
    go_ret
    exact ⟨rfl, BEL3.out⟩
  obtain ⟨p30, hy1⟩ := hbs.1 rfl
  have HY : Hid (∀ i, i < p → (M i).size ≤ 100) := hy1
  clear hbs hy hy1
  by_cases hf : fitsB a1 a2 = true
  rotate_left
  · have hff : fitsB a1 a2 = false := by simpa using hf
    clear hf
    go_wp2_with fail
    refine (new_bad a0 a1 a2 _ hff).mono ?_
    rintro e ww3 ⟨rfl, b3⟩
    have BEL3 : Hid (Below w.heap.size w ww3) := bel_trans BEL2.out b3
    clear BEL2
    clear b3
    have BEL4 : Hid (Below w.heap.size w (ww3.alloc (.cells #[.int .u64 0, .int .i64 0, .slice none 0 0] 25))) := bel_trans BEL3.out (bel_alloc _ _)
    clear BEL3
    have KB_f_4 : Hid (Blk (ww3.alloc (.cells #[.int .u64 0, .int .i64 0, .slice none 0 0] 25)) (ww3.heap.size) 25 #[.int .u64 0, .int .i64 0, .slice none 0 0]) := Blk.new _ _ _
    go_wp2_with fail
    refine (awake_any _).mono ?_
    rintro e ww99 ⟨rfl, b9⟩
    have BEL5 : Hid (Below w.heap.size w ww99) := bel_trans BEL4.out b9
    have KB_f_5 : Hid (Blk ww99 (ww3.heap.size) 25 #[.int .u64 0, .int .i64 0, .slice none 0 0]) := KB_f_4.out.since b9
    clear BEL4 KB_f_4
    clear b9
    go_wp2_with fail
    go_ret
    exact ⟨rfl, BEL5.out⟩
  have hR := (fitsB_iff _ _).1 hf
  obtain ⟨n, rfl⟩ : ∃ n : Nat, a1 = n := ⟨a1.toNat, by omega⟩
  obtain ⟨N, rfl⟩ : ∃ N : Nat, a2 = N := ⟨a2.toNat, by omega⟩
  have n1 : 1 ≤ n := by omega
  have n2 : n ≤ 256 := by omega
  have N1 : 1 ≤ N := by omega
  have N2 : N ≤ 7 := by omega
  have HF : Hid (fitsB n (N : Int) = true) := hf
  clear hR hf
  go_wp2_with fail
  refine (new_ok a0 n N _ HF.out).mono ?_
  rintro e ww3 ⟨x1, rfl, f1, b3⟩
  have BEL3 : Hid (Below w.heap.size w ww3) := bel_trans BEL2.out b3
  clear BEL2
  clear b3
  have BELG : Hid (w.heap.size ≤ ww3.heap.size) := BEL3.out.size
  have FA_f_3 : Hid (FilterAt ww3 (x1) a0 (N : Int) n (fun _ => false)) := f1
  obtain ⟨v1, rfl, A1, c1, bb1, oo1, rfl, hx1, hx2, hx3⟩ := f1
  clear hx1 hx2 hx3
  go_upto_region 6 with fail
  have BEL4 : Hid (Below w.heap.size w (ww3.alloc (.cells #[.int .u64 a0, .int .i64 (N : Int), .slice A1 n c1] 25))) := bel_trans BEL3.out (bel_alloc _ _)
  have FA_f_4 : Hid (FilterAt (ww3.alloc (.cells #[.int .u64 a0, .int .i64 (N : Int), .slice A1 n c1] 25)) (.agg #[.int .u64 a0, .int .i64 (N : Int), .slice A1 n c1]) a0 (N : Int) n (fun _ => false)) := FA_f_3.out.keep (keep_of_below (bel_alloc _ _))
  clear BEL3 FA_f_3
  have KB_f_4 : Hid (Blk (ww3.alloc (.cells #[.int .u64 a0, .int .i64 (N : Int), .slice A1 n c1] 25)) (ww3.heap.size) 25 #[.int .u64 a0, .int .i64 (N : Int), .slice A1 n c1]) := Blk.new _ _ _
  generalize (ww3.alloc (.cells #[.int .u64 a0, .int .i64 (N : Int), .slice A1 n c1] 25)) = u1 at BEL4 FA_f_4 KB_f_4 ⊢
  generalize ww3.heap.size = gf at BELG KB_f_4 ⊢
  go_cut [13, 14] from 23 (fun s13 s14 wx => ∃ gx gy Ax cx Ay cy, (s13 = .pointer (some ⟨gx, 0, none⟩) ∧ s14 = .pointer (some ⟨gy, 0, none⟩)) ∧ TwoIn w wx gx gy a0 N n Ax cx Ay cy (addsB a0 N n (fun _ => false) L m) (addsB a0 N n (fun _ => false) M p))
  case first =>
    refine wp_region_noPanic ?_
    have BEL5 : Hid (Below w.heap.size w u1.drew) := bel_trans BEL4.out ((Below.refl _ _).drew)
    have FA_f_5 : Hid (FilterAt u1.drew (.agg #[.int .u64 a0, .int .i64 (N : Int), .slice A1 n c1]) a0 (N : Int) n (fun _ => false)) := FA_f_4.out.keep (keep_of_below ((Below.refl _ _).drew))
    have KB_f_5 : Hid (Blk u1.drew (gf) 25 #[.int .u64 a0, .int .i64 (N : Int), .slice A1 n c1]) := KB_f_4.out.since ((Below.refl _ _).drew)
    clear BEL4 FA_f_4 KB_f_4
    refine wp_region_held_drew (S := (fun w' => Blk w' (gf) 25 #[.int .u64 a0, .int .i64 (N : Int), .slice A1 n c1])) (by kernel_rfl) KB_f_5.out (fun hHeld => ?_)
    clear hHeld
    generalize u1.drew = v1 at BEL5 FA_f_5 KB_f_5 ⊢
    refine wpAnyH_take (i := 0) (v := ?_) rfl (by kernel_rfl) (by kernel_rfl) (by kernel_rfl) (fun _ _ _ h => h) (Or.inl ⟨by rfl, ?_⟩) KB_f_5.out ?_
    rotate_left
    · intro w hSw; have cl0 := hSw.cell 0; have cl1 := hSw.cell 1; have cl2 := hSw.cell 2; go_simp; first | done | with_reducible rfl
    simp only [List.getElem_toArray, List.getElem_cons_zero, Act.put, List.setIfInBounds_toArray, List.set_cons_zero, List.set_cons_succ]
    refine wpAnyH_take (i := 1) (v := ?_) rfl (by kernel_rfl) (by kernel_rfl) (by kernel_rfl) (fun _ _ _ h => h) (Or.inl ⟨by rfl, ?_⟩) KB_f_5.out ?_
    rotate_left
    · intro w hSw; go_simp; first | done | with_reducible rfl
    simp only [List.getElem_toArray, List.getElem_cons_zero, List.getElem_cons_succ, Act.put, List.setIfInBounds_toArray, List.set_cons_zero, List.set_cons_succ]
    refine wpAnyH_take (i := 3) (v := ?_) rfl (by kernel_rfl) (by kernel_rfl) (by kernel_rfl) (fun _ _ _ h => h) (Or.inl ⟨by rfl, ?_⟩) KB_f_5.out ?_
    rotate_left
    · intro w hSw; have cl0 := hSw.cell 0; have cl1 := hSw.cell 1; have cl2 := hSw.cell 2; go_simp; first | done | with_reducible rfl
    simp only [List.getElem_toArray, List.getElem_cons_zero, List.getElem_cons_succ, Act.put, List.setIfInBounds_toArray, List.set_cons_zero, List.set_cons_succ]
    refine wpAnyH_take (i := 4) (v := ?_) rfl (by kernel_rfl) (by kernel_rfl) (by kernel_rfl) (fun _ _ _ h => h) (Or.inl ⟨by rfl, ?_⟩) KB_f_5.out ?_
    rotate_left
    · intro w hSw; go_simp; first | done | with_reducible rfl
    simp only [List.getElem_toArray, List.getElem_cons_zero, List.getElem_cons_succ, Act.put, List.setIfInBounds_toArray, List.set_cons_zero, List.set_cons_succ]
    refine wpAnyH_ready (rs := [2, 6, 7]) (by kernel_rfl) (by simp) ?_
    refine AllReadyH.cons rfl (fun K hK => ?_) ?_
    · go_simp
      refine (adds_any _ _ _ a0 (N : Int) n m (fun _ => false) L FA_f_5.out (LA.out.keep (keep_of_below BEL5.out)) uS (by omega) m30 HZ.out).mono ?_
      rintro e qx ⟨xx, rfl, fx, bb⟩
      have BEL6 := h_bel BEL5 bb
      have FA_f_6 := h_fil FA_f_5 bb
      have KB_f_6 := h_blk KB_f_5 bb
      clear BEL5 FA_f_5 KB_f_5
      clear bb
      have FA_x_6 : Hid (FilterAt qx (xx) a0 (N : Int) n (addsB a0 N n (fun _ => false) L m)) := fx
      obtain ⟨vx, rfl, Ax, cx, bbx, oox, rfl, hx1, hx2, hx3⟩ := fx
      clear hx1 hx2 hx3
      go_wp2_with fail
      refine hK.out _ _ (by exact KB_f_6.out) (fun hHeld => ?_)
      clear hK K hHeld
      refine wpAnyH_ready (rs := [5, 6, 7]) (by kernel_rfl) (by simp) ?_
      refine AllReadyH.cons rfl (fun K hK => ?_) ?_
      · go_simp
        refine (adds_any _ _ _ a0 (N : Int) n p (fun _ => false) M FA_f_6.out (MA.out.keep (keep_of_below BEL6.out)) uS (by omega) p30 HY.out).mono ?_
        rintro e qy ⟨xy, rfl, fy, bb⟩
        have BEL7 := h_bel BEL6 bb
        have FA_f_7 := h_fil FA_f_6 bb
        have FA_x_7 := h_fil FA_x_6 bb
        have KB_f_7 := h_blk KB_f_6 bb
        clear BEL6 FA_f_6 FA_x_6 KB_f_6
        clear bb
        have FA_y_7 : Hid (FilterAt qy (xy) a0 (N : Int) n (addsB a0 N n (fun _ => false) M p)) := fy
        obtain ⟨vy, rfl, Ay, cy, bby, ooy, rfl, hx1, hx2, hx3⟩ := fy
        clear hx1 hx2 hx3
        go_wp2_with fail
        refine hK.out _ _ (by exact KB_f_7.out) (fun hHeld => ?_)
        clear hK K hHeld
        refine wpAnyH_ready (rs := [6, 7]) (by kernel_rfl) (by simp) ?_
        refine AllReadyH.cons rfl (fun K hK => ?_) ?_
        · have GE_x : Hid (w.heap.size ≤ qy.heap.size) := BEL7.out.size
          have NE_f_x : Hid (gf ≠ qy.heap.size) := Nat.ne_of_lt KB_f_7.out.lt
          have bb := bel_alloc qy (.cells #[.int .u64 0, .int .i64 0, .slice none 0 0] 25)
          have BEL8 := h_bel BEL7 bb
          have FA_f_8 := h_fil FA_f_7 bb
          have FA_x_8 := h_fil FA_x_7 bb
          have FA_y_8 := h_fil FA_y_7 bb
          have KB_f_8 := h_blk KB_f_7 bb
          clear BEL7 FA_f_7 FA_x_7 FA_y_7 KB_f_7
          clear bb
          have KB_x_8 : Hid (Blk (qy.alloc (.cells #[.int .u64 0, .int .i64 0, .slice none 0 0] 25)) (qy.heap.size) 25 #[.int .u64 0, .int .i64 0, .slice none 0 0]) := Blk.new _ _ _
          go_simp
          generalize (qy.alloc (.cells #[.int .u64 0, .int .i64 0, .slice none 0 0] 25)) = v2 at BEL8 FA_f_8 FA_x_8 FA_y_8 KB_f_8 KB_x_8 ⊢
          generalize qy.heap.size = gx at GE_x KB_x_8 NE_f_x ⊢
          refine hK.out _ _ (by exact KB_f_8.out) (fun hHeld => ?_)
          clear hK K hHeld
          refine wpAnyH_ready (rs := [7]) (by kernel_rfl) (by simp) ?_
          refine AllReadyH.cons rfl (fun K hK => ?_) ?_
          · have GE_y : Hid (w.heap.size ≤ v2.heap.size) := BEL8.out.size
            have NE_f_y : Hid (gf ≠ v2.heap.size) := Nat.ne_of_lt KB_f_8.out.lt
            have NE_x_y : Hid (gx ≠ v2.heap.size) := Nat.ne_of_lt KB_x_8.out.lt
            have bb := bel_alloc v2 (.cells #[.int .u64 0, .int .i64 0, .slice none 0 0] 25)
            have BEL9 := h_bel BEL8 bb
            have FA_f_9 := h_fil FA_f_8 bb
            have FA_x_9 := h_fil FA_x_8 bb
            have FA_y_9 := h_fil FA_y_8 bb
            have KB_f_9 := h_blk KB_f_8 bb
            have KB_x_9 := h_blk KB_x_8 bb
            clear BEL8 FA_f_8 FA_x_8 FA_y_8 KB_f_8 KB_x_8
            clear bb
            have KB_y_9 : Hid (Blk (v2.alloc (.cells #[.int .u64 0, .int .i64 0, .slice none 0 0] 25)) (v2.heap.size) 25 #[.int .u64 0, .int .i64 0, .slice none 0 0]) := Blk.new _ _ _
            go_simp
            generalize (v2.alloc (.cells #[.int .u64 0, .int .i64 0, .slice none 0 0] 25)) = v3 at BEL9 FA_f_9 FA_x_9 FA_y_9 KB_f_9 KB_x_9 KB_y_9 ⊢
            generalize v2.heap.size = gy at GE_y KB_y_9 NE_f_y NE_x_y ⊢
            refine hK.out _ _ (by exact KB_f_9.out) (fun hHeld => ?_)
            clear hK K hHeld
            refine wpAnyH_ready (rs := [8]) (by kernel_rfl) (by simp) ?_
            refine AllReadyH.cons rfl (fun K hK => ?_) ?_
            rotate_left
            · exact AllReadyH.nil
            have cx0 : v3.cell? ⟨gx, 0, none⟩ = some (.int .u64 0) := KB_x_9.out.cell 0
            have cf0 := KB_x_9.out.frozen 0
            have cx1 : v3.cell? ⟨gx, 1, none⟩ = some (.int .i64 0) := KB_x_9.out.cell 1
            have cf1 := KB_x_9.out.frozen 1
            have cx2 : v3.cell? ⟨gx, 2, none⟩ = some (.slice none 0 0) := KB_x_9.out.cell 2
            have cf2 := KB_x_9.out.frozen 2
            go_simp
            clear cx0 cf0 cx1 cf1 cx2 cf2
            obtain ⟨v4, hvv4⟩ : ∃ q, q = (((v3.setCell ⟨gx, 0, none⟩ (.int .u64 a0)).setCell ⟨gx, 1, none⟩ (.int .i64 (N : Int))).setCell ⟨gx, 2, none⟩ (.slice Ax n cx)) := ⟨_, rfl⟩
            rw [← hvv4]
            have pe : v4 = put3 v3 gx (.int .u64 a0) (.int .i64 (N : Int)) (.slice Ax n cx) := hvv4
            have BEL10 := p_bel pe BEL9 GE_x
            have FA_f_10 := p_fil pe KB_x_9 FA_f_9
            have FA_x_10 := p_fil pe KB_x_9 FA_x_9
            have FA_y_10 := p_fil pe KB_x_9 FA_y_9
            have KB_f_10 := p_oth pe KB_f_9 (by first | exact NE_f_x | exact n_sym NE_x_f)
            have KB_x_10 := p_blk pe KB_x_9
            have KB_y_10 := p_oth pe KB_y_9 (by first | exact NE_y_x | exact n_sym NE_x_y)
            clear pe hvv4 BEL9 FA_f_9 FA_x_9 FA_y_9 KB_f_9 KB_x_9 KB_y_9
            refine hK.out _ _ (by exact KB_f_10.out) (fun hHeld => ?_)
            clear hK K hHeld
            refine wpAnyH_ready (rs := [9]) (by kernel_rfl) (by simp) ?_
            refine AllReadyH.cons rfl (fun K hK => ?_) ?_
            rotate_left
            · exact AllReadyH.nil
            have cx0 : v4.cell? ⟨gy, 0, none⟩ = some (.int .u64 0) := KB_y_10.out.cell 0
            have cf0 := KB_y_10.out.frozen 0
            have cx1 : v4.cell? ⟨gy, 1, none⟩ = some (.int .i64 0) := KB_y_10.out.cell 1
            have cf1 := KB_y_10.out.frozen 1
            have cx2 : v4.cell? ⟨gy, 2, none⟩ = some (.slice none 0 0) := KB_y_10.out.cell 2
            have cf2 := KB_y_10.out.frozen 2
            go_simp
            clear cx0 cf0 cx1 cf1 cx2 cf2
            obtain ⟨v5, hvv5⟩ : ∃ q, q = (((v4.setCell ⟨gy, 0, none⟩ (.int .u64 a0)).setCell ⟨gy, 1, none⟩ (.int .i64 (N : Int))).setCell ⟨gy, 2, none⟩ (.slice Ay n cy)) := ⟨_, rfl⟩
            rw [← hvv5]
            have pe : v5 = put3 v4 gy (.int .u64 a0) (.int .i64 (N : Int)) (.slice Ay n cy) := hvv5
            have BEL11 := p_bel pe BEL10 GE_y
            have FA_f_11 := p_fil pe KB_y_10 FA_f_10
            have FA_x_11 := p_fil pe KB_y_10 FA_x_10
            have FA_y_11 := p_fil pe KB_y_10 FA_y_10
            have KB_f_11 := p_oth pe KB_f_10 (by first | exact NE_f_y | exact n_sym NE_y_f)
            have KB_x_11 := p_oth pe KB_x_10 (by first | exact NE_x_y | exact n_sym NE_y_x)
            have KB_y_11 := p_blk pe KB_y_10
            clear pe hvv5 BEL10 FA_f_10 FA_x_10 FA_y_10 KB_f_10 KB_x_10 KB_y_10
            refine hK.out _ _ (by exact KB_f_11.out) (fun hHeld => ?_)
            clear hK K hHeld
            refine wpAnyH_done (by kernel_rfl) ?_ _
            refine NoPanic.normal ?_
            go_wp2_with fail
            go_meet
            case rel => exact ⟨gx, gy, Ax, cx, Ay, cy, ⟨rfl, rfl⟩, ⟨BEL11.out, KB_x_11.out, KB_y_11.out, FA_x_11.out, FA_y_11.out⟩⟩
          exact AllReadyH.nil
        refine AllReadyH.cons rfl (fun K hK => ?_) ?_
        · have GE_y : Hid (w.heap.size ≤ qy.heap.size) := BEL7.out.size
          have NE_f_y : Hid (gf ≠ qy.heap.size) := Nat.ne_of_lt KB_f_7.out.lt
          have bb := bel_alloc qy (.cells #[.int .u64 0, .int .i64 0, .slice none 0 0] 25)
          have BEL8 := h_bel BEL7 bb
          have FA_f_8 := h_fil FA_f_7 bb
          have FA_x_8 := h_fil FA_x_7 bb
          have FA_y_8 := h_fil FA_y_7 bb
          have KB_f_8 := h_blk KB_f_7 bb
          clear BEL7 FA_f_7 FA_x_7 FA_y_7 KB_f_7
          clear bb
          have KB_y_8 : Hid (Blk (qy.alloc (.cells #[.int .u64 0, .int .i64 0, .slice none 0 0] 25)) (qy.heap.size) 25 #[.int .u64 0, .int .i64 0, .slice none 0 0]) := Blk.new _ _ _
          go_simp
          generalize (qy.alloc (.cells #[.int .u64 0, .int .i64 0, .slice none 0 0] 25)) = v6 at BEL8 FA_f_8 FA_x_8 FA_y_8 KB_f_8 KB_y_8 ⊢
          generalize qy.heap.size = gy at GE_y KB_y_8 NE_f_y ⊢
          refine hK.out _ _ (by exact KB_f_8.out) (fun hHeld => ?_)
          clear hK K hHeld
          refine wpAnyH_ready (rs := [6]) (by kernel_rfl) (by simp) ?_
          refine AllReadyH.cons rfl (fun K hK => ?_) ?_
          · have GE_x : Hid (w.heap.size ≤ v6.heap.size) := BEL8.out.size
            have NE_f_x : Hid (gf ≠ v6.heap.size) := Nat.ne_of_lt KB_f_8.out.lt
            have NE_y_x : Hid (gy ≠ v6.heap.size) := Nat.ne_of_lt KB_y_8.out.lt
            have bb := bel_alloc v6 (.cells #[.int .u64 0, .int .i64 0, .slice none 0 0] 25)
            have BEL9 := h_bel BEL8 bb
            have FA_f_9 := h_fil FA_f_8 bb
            have FA_x_9 := h_fil FA_x_8 bb
            have FA_y_9 := h_fil FA_y_8 bb
            have KB_f_9 := h_blk KB_f_8 bb
            have KB_y_9 := h_blk KB_y_8 bb
            clear BEL8 FA_f_8 FA_x_8 FA_y_8 KB_f_8 KB_y_8
            clear bb
            have KB_x_9 : Hid (Blk (v6.alloc (.cells #[.int .u64 0, .int .i64 0, .slice none 0 0] 25)) (v6.heap.size) 25 #[.int .u64 0, .int .i64 0, .slice none 0 0]) := Blk.new _ _ _
            go_simp
            generalize (v6.alloc (.cells #[.int .u64 0, .int .i64 0, .slice none 0 0] 25)) = v7 at BEL9 FA_f_9 FA_x_9 FA_y_9 KB_f_9 KB_y_9 KB_x_9 ⊢
            generalize v6.heap.size = gx at GE_x KB_x_9 NE_f_x NE_y_x ⊢
            refine hK.out _ _ (by exact KB_f_9.out) (fun hHeld => ?_)
            clear hK K hHeld
            refine wpAnyH_ready (rs := [8]) (by kernel_rfl) (by simp) ?_
            refine AllReadyH.cons rfl (fun K hK => ?_) ?_
            rotate_left
            · exact AllReadyH.nil
            have cx0 : v7.cell? ⟨gx, 0, none⟩ = some (.int .u64 0) := KB_x_9.out.cell 0
            have cf0 := KB_x_9.out.frozen 0
            have cx1 : v7.cell? ⟨gx, 1, none⟩ = some (.int .i64 0) := KB_x_9.out.cell 1
            have cf1 := KB_x_9.out.frozen 1
            have cx2 : v7.cell? ⟨gx, 2, none⟩ = some (.slice none 0 0) := KB_x_9.out.cell 2
            have cf2 := KB_x_9.out.frozen 2
            go_simp
            clear cx0 cf0 cx1 cf1 cx2 cf2
            obtain ⟨v8, hvv8⟩ : ∃ q, q = (((v7.setCell ⟨gx, 0, none⟩ (.int .u64 a0)).setCell ⟨gx, 1, none⟩ (.int .i64 (N : Int))).setCell ⟨gx, 2, none⟩ (.slice Ax n cx)) := ⟨_, rfl⟩
            rw [← hvv8]
            have pe : v8 = put3 v7 gx (.int .u64 a0) (.int .i64 (N : Int)) (.slice Ax n cx) := hvv8
            have BEL10 := p_bel pe BEL9 GE_x
            have FA_f_10 := p_fil pe KB_x_9 FA_f_9
            have FA_x_10 := p_fil pe KB_x_9 FA_x_9
            have FA_y_10 := p_fil pe KB_x_9 FA_y_9
            have KB_f_10 := p_oth pe KB_f_9 (by first | exact NE_f_x | exact n_sym NE_x_f)
            have KB_y_10 := p_oth pe KB_y_9 (by first | exact NE_y_x | exact n_sym NE_x_y)
            have KB_x_10 := p_blk pe KB_x_9
            clear pe hvv8 BEL9 FA_f_9 FA_x_9 FA_y_9 KB_f_9 KB_y_9 KB_x_9
            refine hK.out _ _ (by exact KB_f_10.out) (fun hHeld => ?_)
            clear hK K hHeld
            refine wpAnyH_ready (rs := [9]) (by kernel_rfl) (by simp) ?_
            refine AllReadyH.cons rfl (fun K hK => ?_) ?_
            rotate_left
            · exact AllReadyH.nil
            have cx0 : v8.cell? ⟨gy, 0, none⟩ = some (.int .u64 0) := KB_y_10.out.cell 0
            have cf0 := KB_y_10.out.frozen 0
            have cx1 : v8.cell? ⟨gy, 1, none⟩ = some (.int .i64 0) := KB_y_10.out.cell 1
            have cf1 := KB_y_10.out.frozen 1
            have cx2 : v8.cell? ⟨gy, 2, none⟩ = some (.slice none 0 0) := KB_y_10.out.cell 2
            have cf2 := KB_y_10.out.frozen 2
            go_simp
            clear cx0 cf0 cx1 cf1 cx2 cf2
            obtain ⟨v9, hvv9⟩ : ∃ q, q = (((v8.setCell ⟨gy, 0, none⟩ (.int .u64 a0)).setCell ⟨gy, 1, none⟩ (.int .i64 (N : Int))).setCell ⟨gy, 2, none⟩ (.slice Ay n cy)) := ⟨_, rfl⟩
            rw [← hvv9]
            have pe : v9 = put3 v8 gy (.int .u64 a0) (.int .i64 (N : Int)) (.slice Ay n cy) := hvv9
            have BEL11 := p_bel pe BEL10 GE_y
            have FA_f_11 := p_fil pe KB_y_10 FA_f_10
            have FA_x_11 := p_fil pe KB_y_10 FA_x_10
            have FA_y_11 := p_fil pe KB_y_10 FA_y_10
            have KB_f_11 := p_oth pe KB_f_10 (by first | exact NE_f_y | exact n_sym NE_y_f)
            have KB_y_11 := p_blk pe KB_y_10
            have KB_x_11 := p_oth pe KB_x_10 (by first | exact NE_x_y | exact n_sym NE_y_x)
            clear pe hvv9 BEL10 FA_f_10 FA_x_10 FA_y_10 KB_f_10 KB_y_10 KB_x_10
            refine hK.out _ _ (by exact KB_f_11.out) (fun hHeld => ?_)
            clear hK K hHeld
            refine wpAnyH_done (by kernel_rfl) ?_ _
            refine NoPanic.normal ?_
            go_wp2_with fail
            go_meet
            case rel => exact ⟨gx, gy, Ax, cx, Ay, cy, ⟨rfl, rfl⟩, ⟨BEL11.out, KB_x_11.out, KB_y_11.out, FA_x_11.out, FA_y_11.out⟩⟩
          exact AllReadyH.nil
        exact AllReadyH.nil
      refine AllReadyH.cons rfl (fun K hK => ?_) ?_
      · have GE_x : Hid (w.heap.size ≤ qx.heap.size) := BEL6.out.size
        have NE_f_x : Hid (gf ≠ qx.heap.size) := Nat.ne_of_lt KB_f_6.out.lt
        have bb := bel_alloc qx (.cells #[.int .u64 0, .int .i64 0, .slice none 0 0] 25)
        have BEL7 := h_bel BEL6 bb
        have FA_f_7 := h_fil FA_f_6 bb
        have FA_x_7 := h_fil FA_x_6 bb
        have KB_f_7 := h_blk KB_f_6 bb
        clear BEL6 FA_f_6 FA_x_6 KB_f_6
        clear bb
        have KB_x_7 : Hid (Blk (qx.alloc (.cells #[.int .u64 0, .int .i64 0, .slice none 0 0] 25)) (qx.heap.size) 25 #[.int .u64 0, .int .i64 0, .slice none 0 0]) := Blk.new _ _ _
        go_simp
        generalize (qx.alloc (.cells #[.int .u64 0, .int .i64 0, .slice none 0 0] 25)) = v10 at BEL7 FA_f_7 FA_x_7 KB_f_7 KB_x_7 ⊢
        generalize qx.heap.size = gx at GE_x KB_x_7 NE_f_x ⊢
        refine hK.out _ _ (by exact KB_f_7.out) (fun hHeld => ?_)
        clear hK K hHeld
        refine wpAnyH_ready (rs := [5, 7]) (by kernel_rfl) (by simp) ?_
        refine AllReadyH.cons rfl (fun K hK => ?_) ?_
        · go_simp
          refine (adds_any _ _ _ a0 (N : Int) n p (fun _ => false) M FA_f_7.out (MA.out.keep (keep_of_below BEL7.out)) uS (by omega) p30 HY.out).mono ?_
          rintro e qy ⟨xy, rfl, fy, bb⟩
          have BEL8 := h_bel BEL7 bb
          have FA_f_8 := h_fil FA_f_7 bb
          have FA_x_8 := h_fil FA_x_7 bb
          have KB_f_8 := h_blk KB_f_7 bb
          have KB_x_8 := h_blk KB_x_7 bb
          clear BEL7 FA_f_7 FA_x_7 KB_f_7 KB_x_7
          clear bb
          have FA_y_8 : Hid (FilterAt qy (xy) a0 (N : Int) n (addsB a0 N n (fun _ => false) M p)) := fy
          obtain ⟨vy, rfl, Ay, cy, bby, ooy, rfl, hx1, hx2, hx3⟩ := fy
          clear hx1 hx2 hx3
          go_wp2_with fail
          refine hK.out _ _ (by exact KB_f_8.out) (fun hHeld => ?_)
          clear hK K hHeld
          refine wpAnyH_ready (rs := [7]) (by kernel_rfl) (by simp) ?_
          refine AllReadyH.cons rfl (fun K hK => ?_) ?_
          · have GE_y : Hid (w.heap.size ≤ qy.heap.size) := BEL8.out.size
            have NE_f_y : Hid (gf ≠ qy.heap.size) := Nat.ne_of_lt KB_f_8.out.lt
            have NE_x_y : Hid (gx ≠ qy.heap.size) := Nat.ne_of_lt KB_x_8.out.lt
            have bb := bel_alloc qy (.cells #[.int .u64 0, .int .i64 0, .slice none 0 0] 25)
            have BEL9 := h_bel BEL8 bb
            have FA_f_9 := h_fil FA_f_8 bb
            have FA_x_9 := h_fil FA_x_8 bb
            have FA_y_9 := h_fil FA_y_8 bb
            have KB_f_9 := h_blk KB_f_8 bb
            have KB_x_9 := h_blk KB_x_8 bb
            clear BEL8 FA_f_8 FA_x_8 FA_y_8 KB_f_8 KB_x_8
            clear bb
            have KB_y_9 : Hid (Blk (qy.alloc (.cells #[.int .u64 0, .int .i64 0, .slice none 0 0] 25)) (qy.heap.size) 25 #[.int .u64 0, .int .i64 0, .slice none 0 0]) := Blk.new _ _ _
            go_simp
            generalize (qy.alloc (.cells #[.int .u64 0, .int .i64 0, .slice none 0 0] 25)) = v11 at BEL9 FA_f_9 FA_x_9 FA_y_9 KB_f_9 KB_x_9 KB_y_9 ⊢
            generalize qy.heap.size = gy at GE_y KB_y_9 NE_f_y NE_x_y ⊢
            refine hK.out _ _ (by exact KB_f_9.out) (fun hHeld => ?_)
            clear hK K hHeld
            refine wpAnyH_ready (rs := [8]) (by kernel_rfl) (by simp) ?_
            refine AllReadyH.cons rfl (fun K hK => ?_) ?_
            rotate_left
            · exact AllReadyH.nil
            have cx0 : v11.cell? ⟨gx, 0, none⟩ = some (.int .u64 0) := KB_x_9.out.cell 0
            have cf0 := KB_x_9.out.frozen 0
            have cx1 : v11.cell? ⟨gx, 1, none⟩ = some (.int .i64 0) := KB_x_9.out.cell 1
            have cf1 := KB_x_9.out.frozen 1
            have cx2 : v11.cell? ⟨gx, 2, none⟩ = some (.slice none 0 0) := KB_x_9.out.cell 2
            have cf2 := KB_x_9.out.frozen 2
            go_simp
            clear cx0 cf0 cx1 cf1 cx2 cf2
            obtain ⟨v12, hvv12⟩ : ∃ q, q = (((v11.setCell ⟨gx, 0, none⟩ (.int .u64 a0)).setCell ⟨gx, 1, none⟩ (.int .i64 (N : Int))).setCell ⟨gx, 2, none⟩ (.slice Ax n cx)) := ⟨_, rfl⟩
            rw [← hvv12]
            have pe : v12 = put3 v11 gx (.int .u64 a0) (.int .i64 (N : Int)) (.slice Ax n cx) := hvv12
            have BEL10 := p_bel pe BEL9 GE_x
            have FA_f_10 := p_fil pe KB_x_9 FA_f_9
            have FA_x_10 := p_fil pe KB_x_9 FA_x_9
            have FA_y_10 := p_fil pe KB_x_9 FA_y_9
            have KB_f_10 := p_oth pe KB_f_9 (by first | exact NE_f_x | exact n_sym NE_x_f)
            have KB_x_10 := p_blk pe KB_x_9
            have KB_y_10 := p_oth pe KB_y_9 (by first | exact NE_y_x | exact n_sym NE_x_y)
            clear pe hvv12 BEL9 FA_f_9 FA_x_9 FA_y_9 KB_f_9 KB_x_9 KB_y_9
            refine hK.out _ _ (by exact KB_f_10.out) (fun hHeld => ?_)
            clear hK K hHeld
            refine wpAnyH_ready (rs := [9]) (by kernel_rfl) (by simp) ?_
            refine AllReadyH.cons rfl (fun K hK => ?_) ?_
            rotate_left
            · exact AllReadyH.nil
            have cx0 : v12.cell? ⟨gy, 0, none⟩ = some (.int .u64 0) := KB_y_10.out.cell 0
            have cf0 := KB_y_10.out.frozen 0
            have cx1 : v12.cell? ⟨gy, 1, none⟩ = some (.int .i64 0) := KB_y_10.out.cell 1
            have cf1 := KB_y_10.out.frozen 1
            have cx2 : v12.cell? ⟨gy, 2, none⟩ = some (.slice none 0 0) := KB_y_10.out.cell 2
            have cf2 := KB_y_10.out.frozen 2
            go_simp
            clear cx0 cf0 cx1 cf1 cx2 cf2
            obtain ⟨v13, hvv13⟩ : ∃ q, q = (((v12.setCell ⟨gy, 0, none⟩ (.int .u64 a0)).setCell ⟨gy, 1, none⟩ (.int .i64 (N : Int))).setCell ⟨gy, 2, none⟩ (.slice Ay n cy)) := ⟨_, rfl⟩
            rw [← hvv13]
            have pe : v13 = put3 v12 gy (.int .u64 a0) (.int .i64 (N : Int)) (.slice Ay n cy) := hvv13
            have BEL11 := p_bel pe BEL10 GE_y
            have FA_f_11 := p_fil pe KB_y_10 FA_f_10
            have FA_x_11 := p_fil pe KB_y_10 FA_x_10
            have FA_y_11 := p_fil pe KB_y_10 FA_y_10
            have KB_f_11 := p_oth pe KB_f_10 (by first | exact NE_f_y | exact n_sym NE_y_f)
            have KB_x_11 := p_oth pe KB_x_10 (by first | exact NE_x_y | exact n_sym NE_y_x)
            have KB_y_11 := p_blk pe KB_y_10
            clear pe hvv13 BEL10 FA_f_10 FA_x_10 FA_y_10 KB_f_10 KB_x_10 KB_y_10
            refine hK.out _ _ (by exact KB_f_11.out) (fun hHeld => ?_)
            clear hK K hHeld
            refine wpAnyH_done (by kernel_rfl) ?_ _
            refine NoPanic.normal ?_
            go_wp2_with fail
            go_meet
            case rel => exact ⟨gx, gy, Ax, cx, Ay, cy, ⟨rfl, rfl⟩, ⟨BEL11.out, KB_x_11.out, KB_y_11.out, FA_x_11.out, FA_y_11.out⟩⟩
          exact AllReadyH.nil
        refine AllReadyH.cons rfl (fun K hK => ?_) ?_
        · have GE_y : Hid (w.heap.size ≤ v10.heap.size) := BEL7.out.size
          have NE_f_y : Hid (gf ≠ v10.heap.size) := Nat.ne_of_lt KB_f_7.out.lt
          have NE_x_y : Hid (gx ≠ v10.heap.size) := Nat.ne_of_lt KB_x_7.out.lt
          have bb := bel_alloc v10 (.cells #[.int .u64 0, .int .i64 0, .slice none 0 0] 25)
          have BEL8 := h_bel BEL7 bb
          have FA_f_8 := h_fil FA_f_7 bb
          have FA_x_8 := h_fil FA_x_7 bb
          have KB_f_8 := h_blk KB_f_7 bb
          have KB_x_8 := h_blk KB_x_7 bb
          clear BEL7 FA_f_7 FA_x_7 KB_f_7 KB_x_7
          clear bb
          have KB_y_8 : Hid (Blk (v10.alloc (.cells #[.int .u64 0, .int .i64 0, .slice none 0 0] 25)) (v10.heap.size) 25 #[.int .u64 0, .int .i64 0, .slice none 0 0]) := Blk.new _ _ _
          go_simp
          generalize (v10.alloc (.cells #[.int .u64 0, .int .i64 0, .slice none 0 0] 25)) = v14 at BEL8 FA_f_8 FA_x_8 KB_f_8 KB_x_8 KB_y_8 ⊢
          generalize v10.heap.size = gy at GE_y KB_y_8 NE_f_y NE_x_y ⊢
          refine hK.out _ _ (by exact KB_f_8.out) (fun hHeld => ?_)
          clear hK K hHeld
          refine wpAnyH_ready (rs := [5]) (by kernel_rfl) (by simp) ?_
          refine AllReadyH.cons rfl (fun K hK => ?_) ?_
          · go_simp
            refine (adds_any _ _ _ a0 (N : Int) n p (fun _ => false) M FA_f_8.out (MA.out.keep (keep_of_below BEL8.out)) uS (by omega) p30 HY.out).mono ?_
            rintro e qy ⟨xy, rfl, fy, bb⟩
            have BEL9 := h_bel BEL8 bb
            have FA_f_9 := h_fil FA_f_8 bb
            have FA_x_9 := h_fil FA_x_8 bb
            have KB_f_9 := h_blk KB_f_8 bb
            have KB_x_9 := h_blk KB_x_8 bb
            have KB_y_9 := h_blk KB_y_8 bb
            clear BEL8 FA_f_8 FA_x_8 KB_f_8 KB_x_8 KB_y_8
            clear bb
            have FA_y_9 : Hid (FilterAt qy (xy) a0 (N : Int) n (addsB a0 N n (fun _ => false) M p)) := fy
            obtain ⟨vy, rfl, Ay, cy, bby, ooy, rfl, hx1, hx2, hx3⟩ := fy
            clear hx1 hx2 hx3
            go_wp2_with fail
            refine hK.out _ _ (by exact KB_f_9.out) (fun hHeld => ?_)
            clear hK K hHeld
            refine wpAnyH_ready (rs := [8]) (by kernel_rfl) (by simp) ?_
            refine AllReadyH.cons rfl (fun K hK => ?_) ?_
            rotate_left
            · exact AllReadyH.nil
            have cx0 : qy.cell? ⟨gx, 0, none⟩ = some (.int .u64 0) := KB_x_9.out.cell 0
            have cf0 := KB_x_9.out.frozen 0
            have cx1 : qy.cell? ⟨gx, 1, none⟩ = some (.int .i64 0) := KB_x_9.out.cell 1
            have cf1 := KB_x_9.out.frozen 1
            have cx2 : qy.cell? ⟨gx, 2, none⟩ = some (.slice none 0 0) := KB_x_9.out.cell 2
            have cf2 := KB_x_9.out.frozen 2
            go_simp
            clear cx0 cf0 cx1 cf1 cx2 cf2
            obtain ⟨v15, hvv15⟩ : ∃ q, q = (((qy.setCell ⟨gx, 0, none⟩ (.int .u64 a0)).setCell ⟨gx, 1, none⟩ (.int .i64 (N : Int))).setCell ⟨gx, 2, none⟩ (.slice Ax n cx)) := ⟨_, rfl⟩
            rw [← hvv15]
            have pe : v15 = put3 qy gx (.int .u64 a0) (.int .i64 (N : Int)) (.slice Ax n cx) := hvv15
            have BEL10 := p_bel pe BEL9 GE_x
            have FA_f_10 := p_fil pe KB_x_9 FA_f_9
            have FA_x_10 := p_fil pe KB_x_9 FA_x_9
            have FA_y_10 := p_fil pe KB_x_9 FA_y_9
            have KB_f_10 := p_oth pe KB_f_9 (by first | exact NE_f_x | exact n_sym NE_x_f)
            have KB_x_10 := p_blk pe KB_x_9
            have KB_y_10 := p_oth pe KB_y_9 (by first | exact NE_y_x | exact n_sym NE_x_y)
            clear pe hvv15 BEL9 FA_f_9 FA_x_9 FA_y_9 KB_f_9 KB_x_9 KB_y_9
            refine hK.out _ _ (by exact KB_f_10.out) (fun hHeld => ?_)
            clear hK K hHeld
            refine wpAnyH_ready (rs := [9]) (by kernel_rfl) (by simp) ?_
            refine AllReadyH.cons rfl (fun K hK => ?_) ?_
            rotate_left
            · exact AllReadyH.nil
            have cx0 : v15.cell? ⟨gy, 0, none⟩ = some (.int .u64 0) := KB_y_10.out.cell 0
            have cf0 := KB_y_10.out.frozen 0
            have cx1 : v15.cell? ⟨gy, 1, none⟩ = some (.int .i64 0) := KB_y_10.out.cell 1
            have cf1 := KB_y_10.out.frozen 1
            have cx2 : v15.cell? ⟨gy, 2, none⟩ = some (.slice none 0 0) := KB_y_10.out.cell 2
            have cf2 := KB_y_10.out.frozen 2
            go_simp
            clear cx0 cf0 cx1 cf1 cx2 cf2
            obtain ⟨v16, hvv16⟩ : ∃ q, q = (((v15.setCell ⟨gy, 0, none⟩ (.int .u64 a0)).setCell ⟨gy, 1, none⟩ (.int .i64 (N : Int))).setCell ⟨gy, 2, none⟩ (.slice Ay n cy)) := ⟨_, rfl⟩
            rw [← hvv16]
            have pe : v16 = put3 v15 gy (.int .u64 a0) (.int .i64 (N : Int)) (.slice Ay n cy) := hvv16
            have BEL11 := p_bel pe BEL10 GE_y
            have FA_f_11 := p_fil pe KB_y_10 FA_f_10
            have FA_x_11 := p_fil pe KB_y_10 FA_x_10
            have FA_y_11 := p_fil pe KB_y_10 FA_y_10
            have KB_f_11 := p_oth pe KB_f_10 (by first | exact NE_f_y | exact n_sym NE_y_f)
            have KB_x_11 := p_oth pe KB_x_10 (by first | exact NE_x_y | exact n_sym NE_y_x)
            have KB_y_11 := p_blk pe KB_y_10
            clear pe hvv16 BEL10 FA_f_10 FA_x_10 FA_y_10 KB_f_10 KB_x_10 KB_y_10
            refine hK.out _ _ (by exact KB_f_11.out) (fun hHeld => ?_)
            clear hK K hHeld
            refine wpAnyH_done (by kernel_rfl) ?_ _
            refine NoPanic.normal ?_
            go_wp2_with fail
            go_meet
            case rel => exact ⟨gx, gy, Ax, cx, Ay, cy, ⟨rfl, rfl⟩, ⟨BEL11.out, KB_x_11.out, KB_y_11.out, FA_x_11.out, FA_y_11.out⟩⟩
          exact AllReadyH.nil
        exact AllReadyH.nil
      refine AllReadyH.cons rfl (fun K hK => ?_) ?_
      · have GE_y : Hid (w.heap.size ≤ qx.heap.size) := BEL6.out.size
        have NE_f_y : Hid (gf ≠ qx.heap.size) := Nat.ne_of_lt KB_f_6.out.lt
        have bb := bel_alloc qx (.cells #[.int .u64 0, .int .i64 0, .slice none 0 0] 25)
        have BEL7 := h_bel BEL6 bb
        have FA_f_7 := h_fil FA_f_6 bb
        have FA_x_7 := h_fil FA_x_6 bb
        have KB_f_7 := h_blk KB_f_6 bb
        clear BEL6 FA_f_6 FA_x_6 KB_f_6
        clear bb
        have KB_y_7 : Hid (Blk (qx.alloc (.cells #[.int .u64 0, .int .i64 0, .slice none 0 0] 25)) (qx.heap.size) 25 #[.int .u64 0, .int .i64 0, .slice none 0 0]) := Blk.new _ _ _
        go_simp
        generalize (qx.alloc (.cells #[.int .u64 0, .int .i64 0, .slice none 0 0] 25)) = v17 at BEL7 FA_f_7 FA_x_7 KB_f_7 KB_y_7 ⊢
        generalize qx.heap.size = gy at GE_y KB_y_7 NE_f_y ⊢
        refine hK.out _ _ (by exact KB_f_7.out) (fun hHeld => ?_)
        clear hK K hHeld
        refine wpAnyH_ready (rs := [5, 6]) (by kernel_rfl) (by simp) ?_
        refine AllReadyH.cons rfl (fun K hK => ?_) ?_
        · go_simp
          refine (adds_any _ _ _ a0 (N : Int) n p (fun _ => false) M FA_f_7.out (MA.out.keep (keep_of_below BEL7.out)) uS (by omega) p30 HY.out).mono ?_
          rintro e qy ⟨xy, rfl, fy, bb⟩
          have BEL8 := h_bel BEL7 bb
          have FA_f_8 := h_fil FA_f_7 bb
          have FA_x_8 := h_fil FA_x_7 bb
          have KB_f_8 := h_blk KB_f_7 bb
          have KB_y_8 := h_blk KB_y_7 bb
          clear BEL7 FA_f_7 FA_x_7 KB_f_7 KB_y_7
          clear bb
          have FA_y_8 : Hid (FilterAt qy (xy) a0 (N : Int) n (addsB a0 N n (fun _ => false) M p)) := fy
          obtain ⟨vy, rfl, Ay, cy, bby, ooy, rfl, hx1, hx2, hx3⟩ := fy
          clear hx1 hx2 hx3
          go_wp2_with fail
          refine hK.out _ _ (by exact KB_f_8.out) (fun hHeld => ?_)
          clear hK K hHeld
          refine wpAnyH_ready (rs := [6]) (by kernel_rfl) (by simp) ?_
          refine AllReadyH.cons rfl (fun K hK => ?_) ?_
          · have GE_x : Hid (w.heap.size ≤ qy.heap.size) := BEL8.out.size
            have NE_f_x : Hid (gf ≠ qy.heap.size) := Nat.ne_of_lt KB_f_8.out.lt
            have NE_y_x : Hid (gy ≠ qy.heap.size) := Nat.ne_of_lt KB_y_8.out.lt
            have bb := bel_alloc qy (.cells #[.int .u64 0, .int .i64 0, .slice none 0 0] 25)
            have BEL9 := h_bel BEL8 bb
            have FA_f_9 := h_fil FA_f_8 bb
            have FA_x_9 := h_fil FA_x_8 bb
            have FA_y_9 := h_fil FA_y_8 bb
            have KB_f_9 := h_blk KB_f_8 bb
            have KB_y_9 := h_blk KB_y_8 bb
            clear BEL8 FA_f_8 FA_x_8 FA_y_8 KB_f_8 KB_y_8
            clear bb
            have KB_x_9 : Hid (Blk (qy.alloc (.cells #[.int .u64 0, .int .i64 0, .slice none 0 0] 25)) (qy.heap.size) 25 #[.int .u64 0, .int .i64 0, .slice none 0 0]) := Blk.new _ _ _
            go_simp
            generalize (qy.alloc (.cells #[.int .u64 0, .int .i64 0, .slice none 0 0] 25)) = v18 at BEL9 FA_f_9 FA_x_9 FA_y_9 KB_f_9 KB_y_9 KB_x_9 ⊢
            generalize qy.heap.size = gx at GE_x KB_x_9 NE_f_x NE_y_x ⊢
            refine hK.out _ _ (by exact KB_f_9.out) (fun hHeld => ?_)
            clear hK K hHeld
            refine wpAnyH_ready (rs := [8]) (by kernel_rfl) (by simp) ?_
            refine AllReadyH.cons rfl (fun K hK => ?_) ?_
            rotate_left
            · exact AllReadyH.nil
            have cx0 : v18.cell? ⟨gx, 0, none⟩ = some (.int .u64 0) := KB_x_9.out.cell 0
            have cf0 := KB_x_9.out.frozen 0
            have cx1 : v18.cell? ⟨gx, 1, none⟩ = some (.int .i64 0) := KB_x_9.out.cell 1
            have cf1 := KB_x_9.out.frozen 1
            have cx2 : v18.cell? ⟨gx, 2, none⟩ = some (.slice none 0 0) := KB_x_9.out.cell 2
            have cf2 := KB_x_9.out.frozen 2
            go_simp
            clear cx0 cf0 cx1 cf1 cx2 cf2
            obtain ⟨v19, hvv19⟩ : ∃ q, q = (((v18.setCell ⟨gx, 0, none⟩ (.int .u64 a0)).setCell ⟨gx, 1, none⟩ (.int .i64 (N : Int))).setCell ⟨gx, 2, none⟩ (.slice Ax n cx)) := ⟨_, rfl⟩
            rw [← hvv19]
            have pe : v19 = put3 v18 gx (.int .u64 a0) (.int .i64 (N : Int)) (.slice Ax n cx) := hvv19
            have BEL10 := p_bel pe BEL9 GE_x
            have FA_f_10 := p_fil pe KB_x_9 FA_f_9
            have FA_x_10 := p_fil pe KB_x_9 FA_x_9
            have FA_y_10 := p_fil pe KB_x_9 FA_y_9
            have KB_f_10 := p_oth pe KB_f_9 (by first | exact NE_f_x | exact n_sym NE_x_f)
            have KB_y_10 := p_oth pe KB_y_9 (by first | exact NE_y_x | exact n_sym NE_x_y)
            have KB_x_10 := p_blk pe KB_x_9
            clear pe hvv19 BEL9 FA_f_9 FA_x_9 FA_y_9 KB_f_9 KB_y_9 KB_x_9
            refine hK.out _ _ (by exact KB_f_10.out) (fun hHeld => ?_)
            clear hK K hHeld
            refine wpAnyH_ready (rs := [9]) (by kernel_rfl) (by simp) ?_
            refine AllReadyH.cons rfl (fun K hK => ?_) ?_
            rotate_left
            · exact AllReadyH.nil
            have cx0 : v19.cell? ⟨gy, 0, none⟩ = some (.int .u64 0) := KB_y_10.out.cell 0
            have cf0 := KB_y_10.out.frozen 0
            have cx1 : v19.cell? ⟨gy, 1, none⟩ = some (.int .i64 0) := KB_y_10.out.cell 1
            have cf1 := KB_y_10.out.frozen 1
            have cx2 : v19.cell? ⟨gy, 2, none⟩ = some (.slice none 0 0) := KB_y_10.out.cell 2
            have cf2 := KB_y_10.out.frozen 2
            go_simp
            clear cx0 cf0 cx1 cf1 cx2 cf2
            obtain ⟨v20, hvv20⟩ : ∃ q, q = (((v19.setCell ⟨gy, 0, none⟩ (.int .u64 a0)).setCell ⟨gy, 1, none⟩ (.int .i64 (N : Int))).setCell ⟨gy, 2, none⟩ (.slice Ay n cy)) := ⟨_, rfl⟩
            rw [← hvv20]
            have pe : v20 = put3 v19 gy (.int .u64 a0) (.int .i64 (N : Int)) (.slice Ay n cy) := hvv20
            have BEL11 := p_bel pe BEL10 GE_y
            have FA_f_11 := p_fil pe KB_y_10 FA_f_10
            have FA_x_11 := p_fil pe KB_y_10 FA_x_10
            have FA_y_11 := p_fil pe KB_y_10 FA_y_10
            have KB_f_11 := p_oth pe KB_f_10 (by first | exact NE_f_y | exact n_sym NE_y_f)
            have KB_y_11 := p_blk pe KB_y_10
            have KB_x_11 := p_oth pe KB_x_10 (by first | exact NE_x_y | exact n_sym NE_y_x)
            clear pe hvv20 BEL10 FA_f_10 FA_x_10 FA_y_10 KB_f_10 KB_y_10 KB_x_10
            refine hK.out _ _ (by exact KB_f_11.out) (fun hHeld => ?_)
            clear hK K hHeld
            refine wpAnyH_done (by kernel_rfl) ?_ _
            refine NoPanic.normal ?_
            go_wp2_with fail
            go_meet
            case rel => exact ⟨gx, gy, Ax, cx, Ay, cy, ⟨rfl, rfl⟩, ⟨BEL11.out, KB_x_11.out, KB_y_11.out, FA_x_11.out, FA_y_11.out⟩⟩
          exact AllReadyH.nil
        refine AllReadyH.cons rfl (fun K hK => ?_) ?_
        · have GE_x : Hid (w.heap.size ≤ v17.heap.size) := BEL7.out.size
          have NE_f_x : Hid (gf ≠ v17.heap.size) := Nat.ne_of_lt KB_f_7.out.lt
          have NE_y_x : Hid (gy ≠ v17.heap.size) := Nat.ne_of_lt KB_y_7.out.lt
          have bb := bel_alloc v17 (.cells #[.int .u64 0, .int .i64 0, .slice none 0 0] 25)
          have BEL8 := h_bel BEL7 bb
          have FA_f_8 := h_fil FA_f_7 bb
          have FA_x_8 := h_fil FA_x_7 bb
          have KB_f_8 := h_blk KB_f_7 bb
          have KB_y_8 := h_blk KB_y_7 bb
          clear BEL7 FA_f_7 FA_x_7 KB_f_7 KB_y_7
          clear bb
          have KB_x_8 : Hid (Blk (v17.alloc (.cells #[.int .u64 0, .int .i64 0, .slice none 0 0] 25)) (v17.heap.size) 25 #[.int .u64 0, .int .i64 0, .slice none 0 0]) := Blk.new _ _ _
          go_simp
          generalize (v17.alloc (.cells #[.int .u64 0, .int .i64 0, .slice none 0 0] 25)) = v21 at BEL8 FA_f_8 FA_x_8 KB_f_8 KB_y_8 KB_x_8 ⊢
          generalize v17.heap.size = gx at GE_x KB_x_8 NE_f_x NE_y_x ⊢
          refine hK.out _ _ (by exact KB_f_8.out) (fun hHeld => ?_)
          clear hK K hHeld
          refine wpAnyH_ready (rs := [5]) (by kernel_rfl) (by simp) ?_
          refine AllReadyH.cons rfl (fun K hK => ?_) ?_
          · go_simp
            refine (adds_any _ _ _ a0 (N : Int) n p (fun _ => false) M FA_f_8.out (MA.out.keep (keep_of_below BEL8.out)) uS (by omega) p30 HY.out).mono ?_
            rintro e qy ⟨xy, rfl, fy, bb⟩
            have BEL9 := h_bel BEL8 bb
            have FA_f_9 := h_fil FA_f_8 bb
            have FA_x_9 := h_fil FA_x_8 bb
            have KB_f_9 := h_blk KB_f_8 bb
            have KB_y_9 := h_blk KB_y_8 bb
            have KB_x_9 := h_blk KB_x_8 bb
            clear BEL8 FA_f_8 FA_x_8 KB_f_8 KB_y_8 KB_x_8
            clear bb
            have FA_y_9 : Hid (FilterAt qy (xy) a0 (N : Int) n (addsB a0 N n (fun _ => false) M p)) := fy
            obtain ⟨vy, rfl, Ay, cy, bby, ooy, rfl, hx1, hx2, hx3⟩ := fy
            clear hx1 hx2 hx3
            go_wp2_with fail
            refine hK.out _ _ (by exact KB_f_9.out) (fun hHeld => ?_)
            clear hK K hHeld
            refine wpAnyH_ready (rs := [8]) (by kernel_rfl) (by simp) ?_
            refine AllReadyH.cons rfl (fun K hK => ?_) ?_
            rotate_left
            · exact AllReadyH.nil
            have cx0 : qy.cell? ⟨gx, 0, none⟩ = some (.int .u64 0) := KB_x_9.out.cell 0
            have cf0 := KB_x_9.out.frozen 0
            have cx1 : qy.cell? ⟨gx, 1, none⟩ = some (.int .i64 0) := KB_x_9.out.cell 1
            have cf1 := KB_x_9.out.frozen 1
            have cx2 : qy.cell? ⟨gx, 2, none⟩ = some (.slice none 0 0) := KB_x_9.out.cell 2
            have cf2 := KB_x_9.out.frozen 2
            go_simp
            clear cx0 cf0 cx1 cf1 cx2 cf2
            obtain ⟨v22, hvv22⟩ : ∃ q, q = (((qy.setCell ⟨gx, 0, none⟩ (.int .u64 a0)).setCell ⟨gx, 1, none⟩ (.int .i64 (N : Int))).setCell ⟨gx, 2, none⟩ (.slice Ax n cx)) := ⟨_, rfl⟩
            rw [← hvv22]
            have pe : v22 = put3 qy gx (.int .u64 a0) (.int .i64 (N : Int)) (.slice Ax n cx) := hvv22
            have BEL10 := p_bel pe BEL9 GE_x
            have FA_f_10 := p_fil pe KB_x_9 FA_f_9
            have FA_x_10 := p_fil pe KB_x_9 FA_x_9
            have FA_y_10 := p_fil pe KB_x_9 FA_y_9
            have KB_f_10 := p_oth pe KB_f_9 (by first | exact NE_f_x | exact n_sym NE_x_f)
            have KB_y_10 := p_oth pe KB_y_9 (by first | exact NE_y_x | exact n_sym NE_x_y)
            have KB_x_10 := p_blk pe KB_x_9
            clear pe hvv22 BEL9 FA_f_9 FA_x_9 FA_y_9 KB_f_9 KB_y_9 KB_x_9
            refine hK.out _ _ (by exact KB_f_10.out) (fun hHeld => ?_)
            clear hK K hHeld
            refine wpAnyH_ready (rs := [9]) (by kernel_rfl) (by simp) ?_
            refine AllReadyH.cons rfl (fun K hK => ?_) ?_
            rotate_left
            · exact AllReadyH.nil
            have cx0 : v22.cell? ⟨gy, 0, none⟩ = some (.int .u64 0) := KB_y_10.out.cell 0
            have cf0 := KB_y_10.out.frozen 0
            have cx1 : v22.cell? ⟨gy, 1, none⟩ = some (.int .i64 0) := KB_y_10.out.cell 1
            have cf1 := KB_y_10.out.frozen 1
            have cx2 : v22.cell? ⟨gy, 2, none⟩ = some (.slice none 0 0) := KB_y_10.out.cell 2
            have cf2 := KB_y_10.out.frozen 2
            go_simp
            clear cx0 cf0 cx1 cf1 cx2 cf2
            obtain ⟨v23, hvv23⟩ : ∃ q, q = (((v22.setCell ⟨gy, 0, none⟩ (.int .u64 a0)).setCell ⟨gy, 1, none⟩ (.int .i64 (N : Int))).setCell ⟨gy, 2, none⟩ (.slice Ay n cy)) := ⟨_, rfl⟩
            rw [← hvv23]
            have pe : v23 = put3 v22 gy (.int .u64 a0) (.int .i64 (N : Int)) (.slice Ay n cy) := hvv23
            have BEL11 := p_bel pe BEL10 GE_y
            have FA_f_11 := p_fil pe KB_y_10 FA_f_10
            have FA_x_11 := p_fil pe KB_y_10 FA_x_10
            have FA_y_11 := p_fil pe KB_y_10 FA_y_10
            have KB_f_11 := p_oth pe KB_f_10 (by first | exact NE_f_y | exact n_sym NE_y_f)
            have KB_y_11 := p_blk pe KB_y_10
            have KB_x_11 := p_oth pe KB_x_10 (by first | exact NE_x_y | exact n_sym NE_y_x)
            clear pe hvv23 BEL10 FA_f_10 FA_x_10 FA_y_10 KB_f_10 KB_y_10 KB_x_10
            refine hK.out _ _ (by exact KB_f_11.out) (fun hHeld => ?_)
            clear hK K hHeld
            refine wpAnyH_done (by kernel_rfl) ?_ _
            refine NoPanic.normal ?_
            go_wp2_with fail
            go_meet
            case rel => exact ⟨gx, gy, Ax, cx, Ay, cy, ⟨rfl, rfl⟩, ⟨BEL11.out, KB_x_11.out, KB_y_11.out, FA_x_11.out, FA_y_11.out⟩⟩
          exact AllReadyH.nil
        exact AllReadyH.nil
      exact AllReadyH.nil
    refine AllReadyH.cons rfl (fun K hK => ?_) ?_
    · have GE_x : Hid (w.heap.size ≤ v1.heap.size) := BEL5.out.size
      have NE_f_x : Hid (gf ≠ v1.heap.size) := Nat.ne_of_lt KB_f_5.out.lt
      have bb := bel_alloc v1 (.cells #[.int .u64 0, .int .i64 0, .slice none 0 0] 25)
      have BEL6 := h_bel BEL5 bb
      have FA_f_6 := h_fil FA_f_5 bb
      have KB_f_6 := h_blk KB_f_5 bb
      clear BEL5 FA_f_5 KB_f_5
      clear bb
      have KB_x_6 : Hid (Blk (v1.alloc (.cells #[.int .u64 0, .int .i64 0, .slice none 0 0] 25)) (v1.heap.size) 25 #[.int .u64 0, .int .i64 0, .slice none 0 0]) := Blk.new _ _ _
      go_simp
      generalize (v1.alloc (.cells #[.int .u64 0, .int .i64 0, .slice none 0 0] 25)) = v24 at BEL6 FA_f_6 KB_f_6 KB_x_6 ⊢
      generalize v1.heap.size = gx at GE_x KB_x_6 NE_f_x ⊢
      refine hK.out _ _ (by exact KB_f_6.out) (fun hHeld => ?_)
      clear hK K hHeld
      refine wpAnyH_ready (rs := [2, 7]) (by kernel_rfl) (by simp) ?_
      refine AllReadyH.cons rfl (fun K hK => ?_) ?_
      · go_simp
        refine (adds_any _ _ _ a0 (N : Int) n m (fun _ => false) L FA_f_6.out (LA.out.keep (keep_of_below BEL6.out)) uS (by omega) m30 HZ.out).mono ?_
        rintro e qx ⟨xx, rfl, fx, bb⟩
        have BEL7 := h_bel BEL6 bb
        have FA_f_7 := h_fil FA_f_6 bb
        have KB_f_7 := h_blk KB_f_6 bb
        have KB_x_7 := h_blk KB_x_6 bb
        clear BEL6 FA_f_6 KB_f_6 KB_x_6
        clear bb
        have FA_x_7 : Hid (FilterAt qx (xx) a0 (N : Int) n (addsB a0 N n (fun _ => false) L m)) := fx
        obtain ⟨vx, rfl, Ax, cx, bbx, oox, rfl, hx1, hx2, hx3⟩ := fx
        clear hx1 hx2 hx3
        go_wp2_with fail
        refine hK.out _ _ (by exact KB_f_7.out) (fun hHeld => ?_)
        clear hK K hHeld
        refine wpAnyH_ready (rs := [5, 7]) (by kernel_rfl) (by simp) ?_
        refine AllReadyH.cons rfl (fun K hK => ?_) ?_
        · go_simp
          refine (adds_any _ _ _ a0 (N : Int) n p (fun _ => false) M FA_f_7.out (MA.out.keep (keep_of_below BEL7.out)) uS (by omega) p30 HY.out).mono ?_
          rintro e qy ⟨xy, rfl, fy, bb⟩
          have BEL8 := h_bel BEL7 bb
          have FA_f_8 := h_fil FA_f_7 bb
          have FA_x_8 := h_fil FA_x_7 bb
          have KB_f_8 := h_blk KB_f_7 bb
          have KB_x_8 := h_blk KB_x_7 bb
          clear BEL7 FA_f_7 FA_x_7 KB_f_7 KB_x_7
          clear bb
          have FA_y_8 : Hid (FilterAt qy (xy) a0 (N : Int) n (addsB a0 N n (fun _ => false) M p)) := fy
          obtain ⟨vy, rfl, Ay, cy, bby, ooy, rfl, hx1, hx2, hx3⟩ := fy
          clear hx1 hx2 hx3
          go_wp2_with fail
          refine hK.out _ _ (by exact KB_f_8.out) (fun hHeld => ?_)
          clear hK K hHeld
          refine wpAnyH_ready (rs := [7]) (by kernel_rfl) (by simp) ?_
          refine AllReadyH.cons rfl (fun K hK => ?_) ?_
          · have GE_y : Hid (w.heap.size ≤ qy.heap.size) := BEL8.out.size
            have NE_f_y : Hid (gf ≠ qy.heap.size) := Nat.ne_of_lt KB_f_8.out.lt
            have NE_x_y : Hid (gx ≠ qy.heap.size) := Nat.ne_of_lt KB_x_8.out.lt
            have bb := bel_alloc qy (.cells #[.int .u64 0, .int .i64 0, .slice none 0 0] 25)
            have BEL9 := h_bel BEL8 bb
            have FA_f_9 := h_fil FA_f_8 bb
            have FA_x_9 := h_fil FA_x_8 bb
            have FA_y_9 := h_fil FA_y_8 bb
            have KB_f_9 := h_blk KB_f_8 bb
            have KB_x_9 := h_blk KB_x_8 bb
            clear BEL8 FA_f_8 FA_x_8 FA_y_8 KB_f_8 KB_x_8
            clear bb
            have KB_y_9 : Hid (Blk (qy.alloc (.cells #[.int .u64 0, .int .i64 0, .slice none 0 0] 25)) (qy.heap.size) 25 #[.int .u64 0, .int .i64 0, .slice none 0 0]) := Blk.new _ _ _
            go_simp
            generalize (qy.alloc (.cells #[.int .u64 0, .int .i64 0, .slice none 0 0] 25)) = v25 at BEL9 FA_f_9 FA_x_9 FA_y_9 KB_f_9 KB_x_9 KB_y_9 ⊢
            generalize qy.heap.size = gy at GE_y KB_y_9 NE_f_y NE_x_y ⊢
            refine hK.out _ _ (by exact KB_f_9.out) (fun hHeld => ?_)
            clear hK K hHeld
            refine wpAnyH_ready (rs := [8]) (by kernel_rfl) (by simp) ?_
            refine AllReadyH.cons rfl (fun K hK => ?_) ?_
            rotate_left
            · exact AllReadyH.nil
            have cx0 : v25.cell? ⟨gx, 0, none⟩ = some (.int .u64 0) := KB_x_9.out.cell 0
            have cf0 := KB_x_9.out.frozen 0
            have cx1 : v25.cell? ⟨gx, 1, none⟩ = some (.int .i64 0) := KB_x_9.out.cell 1
            have cf1 := KB_x_9.out.frozen 1
            have cx2 : v25.cell? ⟨gx, 2, none⟩ = some (.slice none 0 0) := KB_x_9.out.cell 2
            have cf2 := KB_x_9.out.frozen 2
            go_simp
            clear cx0 cf0 cx1 cf1 cx2 cf2
            obtain ⟨v26, hvv26⟩ : ∃ q, q = (((v25.setCell ⟨gx, 0, none⟩ (.int .u64 a0)).setCell ⟨gx, 1, none⟩ (.int .i64 (N : Int))).setCell ⟨gx, 2, none⟩ (.slice Ax n cx)) := ⟨_, rfl⟩
            rw [← hvv26]
            have pe : v26 = put3 v25 gx (.int .u64 a0) (.int .i64 (N : Int)) (.slice Ax n cx) := hvv26
            have BEL10 := p_bel pe BEL9 GE_x
            have FA_f_10 := p_fil pe KB_x_9 FA_f_9
            have FA_x_10 := p_fil pe KB_x_9 FA_x_9
            have FA_y_10 := p_fil pe KB_x_9 FA_y_9
            have KB_f_10 := p_oth pe KB_f_9 (by first | exact NE_f_x | exact n_sym NE_x_f)
            have KB_x_10 := p_blk pe KB_x_9
            have KB_y_10 := p_oth pe KB_y_9 (by first | exact NE_y_x | exact n_sym NE_x_y)
            clear pe hvv26 BEL9 FA_f_9 FA_x_9 FA_y_9 KB_f_9 KB_x_9 KB_y_9
            refine hK.out _ _ (by exact KB_f_10.out) (fun hHeld => ?_)
            clear hK K hHeld
            refine wpAnyH_ready (rs := [9]) (by kernel_rfl) (by simp) ?_
            refine AllReadyH.cons rfl (fun K hK => ?_) ?_
            rotate_left
            · exact AllReadyH.nil
            have cx0 : v26.cell? ⟨gy, 0, none⟩ = some (.int .u64 0) := KB_y_10.out.cell 0
            have cf0 := KB_y_10.out.frozen 0
            have cx1 : v26.cell? ⟨gy, 1, none⟩ = some (.int .i64 0) := KB_y_10.out.cell 1
            have cf1 := KB_y_10.out.frozen 1
            have cx2 : v26.cell? ⟨gy, 2, none⟩ = some (.slice none 0 0) := KB_y_10.out.cell 2
            have cf2 := KB_y_10.out.frozen 2
            go_simp
            clear cx0 cf0 cx1 cf1 cx2 cf2
            obtain ⟨v27, hvv27⟩ : ∃ q, q = (((v26.setCell ⟨gy, 0, none⟩ (.int .u64 a0)).setCell ⟨gy, 1, none⟩ (.int .i64 (N : Int))).setCell ⟨gy, 2, none⟩ (.slice Ay n cy)) := ⟨_, rfl⟩
            rw [← hvv27]
            have pe : v27 = put3 v26 gy (.int .u64 a0) (.int .i64 (N : Int)) (.slice Ay n cy) := hvv27
            have BEL11 := p_bel pe BEL10 GE_y
            have FA_f_11 := p_fil pe KB_y_10 FA_f_10
            have FA_x_11 := p_fil pe KB_y_10 FA_x_10
            have FA_y_11 := p_fil pe KB_y_10 FA_y_10
            have KB_f_11 := p_oth pe KB_f_10 (by first | exact NE_f_y | exact n_sym NE_y_f)
            have KB_x_11 := p_oth pe KB_x_10 (by first | exact NE_x_y | exact n_sym NE_y_x)
            have KB_y_11 := p_blk pe KB_y_10
            clear pe hvv27 BEL10 FA_f_10 FA_x_10 FA_y_10 KB_f_10 KB_x_10 KB_y_10
            refine hK.out _ _ (by exact KB_f_11.out) (fun hHeld => ?_)
            clear hK K hHeld
            refine wpAnyH_done (by kernel_rfl) ?_ _
            refine NoPanic.normal ?_
            go_wp2_with fail
            go_meet
            case rel => exact ⟨gx, gy, Ax, cx, Ay, cy, ⟨rfl, rfl⟩, ⟨BEL11.out, KB_x_11.out, KB_y_11.out, FA_x_11.out, FA_y_11.out⟩⟩
          exact AllReadyH.nil
        refine AllReadyH.cons rfl (fun K hK => ?_) ?_
        · have GE_y : Hid (w.heap.size ≤ qx.heap.size) := BEL7.out.size
          have NE_f_y : Hid (gf ≠ qx.heap.size) := Nat.ne_of_lt KB_f_7.out.lt
          have NE_x_y : Hid (gx ≠ qx.heap.size) := Nat.ne_of_lt KB_x_7.out.lt
          have bb := bel_alloc qx (.cells #[.int .u64 0, .int .i64 0, .slice none 0 0] 25)
          have BEL8 := h_bel BEL7 bb
          have FA_f_8 := h_fil FA_f_7 bb
          have FA_x_8 := h_fil FA_x_7 bb
          have KB_f_8 := h_blk KB_f_7 bb
          have KB_x_8 := h_blk KB_x_7 bb
          clear BEL7 FA_f_7 FA_x_7 KB_f_7 KB_x_7
          clear bb
          have KB_y_8 : Hid (Blk (qx.alloc (.cells #[.int .u64 0, .int .i64 0, .slice none 0 0] 25)) (qx.heap.size) 25 #[.int .u64 0, .int .i64 0, .slice none 0 0]) := Blk.new _ _ _
          go_simp
          generalize (qx.alloc (.cells #[.int .u64 0, .int .i64 0, .slice none 0 0] 25)) = v28 at BEL8 FA_f_8 FA_x_8 KB_f_8 KB_x_8 KB_y_8 ⊢
          generalize qx.heap.size = gy at GE_y KB_y_8 NE_f_y NE_x_y ⊢
          refine hK.out _ _ (by exact KB_f_8.out) (fun hHeld => ?_)
          clear hK K hHeld
          refine wpAnyH_ready (rs := [5]) (by kernel_rfl) (by simp) ?_
          refine AllReadyH.cons rfl (fun K hK => ?_) ?_
          · go_simp
            refine (adds_any _ _ _ a0 (N : Int) n p (fun _ => false) M FA_f_8.out (MA.out.keep (keep_of_below BEL8.out)) uS (by omega) p30 HY.out).mono ?_
            rintro e qy ⟨xy, rfl, fy, bb⟩
            have BEL9 := h_bel BEL8 bb
            have FA_f_9 := h_fil FA_f_8 bb
            have FA_x_9 := h_fil FA_x_8 bb
            have KB_f_9 := h_blk KB_f_8 bb
            have KB_x_9 := h_blk KB_x_8 bb
            have KB_y_9 := h_blk KB_y_8 bb
            clear BEL8 FA_f_8 FA_x_8 KB_f_8 KB_x_8 KB_y_8
            clear bb
            have FA_y_9 : Hid (FilterAt qy (xy) a0 (N : Int) n (addsB a0 N n (fun _ => false) M p)) := fy
            obtain ⟨vy, rfl, Ay, cy, bby, ooy, rfl, hx1, hx2, hx3⟩ := fy
            clear hx1 hx2 hx3
            go_wp2_with fail
            refine hK.out _ _ (by exact KB_f_9.out) (fun hHeld => ?_)
            clear hK K hHeld
            refine wpAnyH_ready (rs := [8]) (by kernel_rfl) (by simp) ?_
            refine AllReadyH.cons rfl (fun K hK => ?_) ?_
            rotate_left
            · exact AllReadyH.nil
            have cx0 : qy.cell? ⟨gx, 0, none⟩ = some (.int .u64 0) := KB_x_9.out.cell 0
            have cf0 := KB_x_9.out.frozen 0
            have cx1 : qy.cell? ⟨gx, 1, none⟩ = some (.int .i64 0) := KB_x_9.out.cell 1
            have cf1 := KB_x_9.out.frozen 1
            have cx2 : qy.cell? ⟨gx, 2, none⟩ = some (.slice none 0 0) := KB_x_9.out.cell 2
            have cf2 := KB_x_9.out.frozen 2
            go_simp
            clear cx0 cf0 cx1 cf1 cx2 cf2
            obtain ⟨v29, hvv29⟩ : ∃ q, q = (((qy.setCell ⟨gx, 0, none⟩ (.int .u64 a0)).setCell ⟨gx, 1, none⟩ (.int .i64 (N : Int))).setCell ⟨gx, 2, none⟩ (.slice Ax n cx)) := ⟨_, rfl⟩
            rw [← hvv29]
            have pe : v29 = put3 qy gx (.int .u64 a0) (.int .i64 (N : Int)) (.slice Ax n cx) := hvv29
            have BEL10 := p_bel pe BEL9 GE_x
            have FA_f_10 := p_fil pe KB_x_9 FA_f_9
            have FA_x_10 := p_fil pe KB_x_9 FA_x_9
            have FA_y_10 := p_fil pe KB_x_9 FA_y_9
            have KB_f_10 := p_oth pe KB_f_9 (by first | exact NE_f_x | exact n_sym NE_x_f)
            have KB_x_10 := p_blk pe KB_x_9
            have KB_y_10 := p_oth pe KB_y_9 (by first | exact NE_y_x | exact n_sym NE_x_y)
            clear pe hvv29 BEL9 FA_f_9 FA_x_9 FA_y_9 KB_f_9 KB_x_9 KB_y_9
            refine hK.out _ _ (by exact KB_f_10.out) (fun hHeld => ?_)
            clear hK K hHeld
            refine wpAnyH_ready (rs := [9]) (by kernel_rfl) (by simp) ?_
            refine AllReadyH.cons rfl (fun K hK => ?_) ?_
            rotate_left
            · exact AllReadyH.nil
            have cx0 : v29.cell? ⟨gy, 0, none⟩ = some (.int .u64 0) := KB_y_10.out.cell 0
            have cf0 := KB_y_10.out.frozen 0
            have cx1 : v29.cell? ⟨gy, 1, none⟩ = some (.int .i64 0) := KB_y_10.out.cell 1
            have cf1 := KB_y_10.out.frozen 1
            have cx2 : v29.cell? ⟨gy, 2, none⟩ = some (.slice none 0 0) := KB_y_10.out.cell 2
            have cf2 := KB_y_10.out.frozen 2
            go_simp
            clear cx0 cf0 cx1 cf1 cx2 cf2
            obtain ⟨v30, hvv30⟩ : ∃ q, q = (((v29.setCell ⟨gy, 0, none⟩ (.int .u64 a0)).setCell ⟨gy, 1, none⟩ (.int .i64 (N : Int))).setCell ⟨gy, 2, none⟩ (.slice Ay n cy)) := ⟨_, rfl⟩
            rw [← hvv30]
            have pe : v30 = put3 v29 gy (.int .u64 a0) (.int .i64 (N : Int)) (.slice Ay n cy) := hvv30
            have BEL11 := p_bel pe BEL10 GE_y
            have FA_f_11 := p_fil pe KB_y_10 FA_f_10
            have FA_x_11 := p_fil pe KB_y_10 FA_x_10
            have FA_y_11 := p_fil pe KB_y_10 FA_y_10
            have KB_f_11 := p_oth pe KB_f_10 (by first | exact NE_f_y | exact n_sym NE_y_f)
            have KB_x_11 := p_oth pe KB_x_10 (by first | exact NE_x_y | exact n_sym NE_y_x)
            have KB_y_11 := p_blk pe KB_y_10
            clear pe hvv30 BEL10 FA_f_10 FA_x_10 FA_y_10 KB_f_10 KB_x_10 KB_y_10
            refine hK.out _ _ (by exact KB_f_11.out) (fun hHeld => ?_)
            clear hK K hHeld
            refine wpAnyH_done (by kernel_rfl) ?_ _
            refine NoPanic.normal ?_
            go_wp2_with fail
            go_meet
            case rel => exact ⟨gx, gy, Ax, cx, Ay, cy, ⟨rfl, rfl⟩, ⟨BEL11.out, KB_x_11.out, KB_y_11.out, FA_x_11.out, FA_y_11.out⟩⟩
          exact AllReadyH.nil
        exact AllReadyH.nil
      refine AllReadyH.cons rfl (fun K hK => ?_) ?_
      · have GE_y : Hid (w.heap.size ≤ v24.heap.size) := BEL6.out.size
        have NE_f_y : Hid (gf ≠ v24.heap.size) := Nat.ne_of_lt KB_f_6.out.lt
        have NE_x_y : Hid (gx ≠ v24.heap.size) := Nat.ne_of_lt KB_x_6.out.lt
        have bb := bel_alloc v24 (.cells #[.int .u64 0, .int .i64 0, .slice none 0 0] 25)
        have BEL7 := h_bel BEL6 bb
        have FA_f_7 := h_fil FA_f_6 bb
        have KB_f_7 := h_blk KB_f_6 bb
        have KB_x_7 := h_blk KB_x_6 bb
        clear BEL6 FA_f_6 KB_f_6 KB_x_6
        clear bb
        have KB_y_7 : Hid (Blk (v24.alloc (.cells #[.int .u64 0, .int .i64 0, .slice none 0 0] 25)) (v24.heap.size) 25 #[.int .u64 0, .int .i64 0, .slice none 0 0]) := Blk.new _ _ _
        go_simp
        generalize (v24.alloc (.cells #[.int .u64 0, .int .i64 0, .slice none 0 0] 25)) = v31 at BEL7 FA_f_7 KB_f_7 KB_x_7 KB_y_7 ⊢
        generalize v24.heap.size = gy at GE_y KB_y_7 NE_f_y NE_x_y ⊢
        refine hK.out _ _ (by exact KB_f_7.out) (fun hHeld => ?_)
        clear hK K hHeld
        refine wpAnyH_ready (rs := [2]) (by kernel_rfl) (by simp) ?_
        refine AllReadyH.cons rfl (fun K hK => ?_) ?_
        · go_simp
          refine (adds_any _ _ _ a0 (N : Int) n m (fun _ => false) L FA_f_7.out (LA.out.keep (keep_of_below BEL7.out)) uS (by omega) m30 HZ.out).mono ?_
          rintro e qx ⟨xx, rfl, fx, bb⟩
          have BEL8 := h_bel BEL7 bb
          have FA_f_8 := h_fil FA_f_7 bb
          have KB_f_8 := h_blk KB_f_7 bb
          have KB_x_8 := h_blk KB_x_7 bb
          have KB_y_8 := h_blk KB_y_7 bb
          clear BEL7 FA_f_7 KB_f_7 KB_x_7 KB_y_7
          clear bb
          have FA_x_8 : Hid (FilterAt qx (xx) a0 (N : Int) n (addsB a0 N n (fun _ => false) L m)) := fx
          obtain ⟨vx, rfl, Ax, cx, bbx, oox, rfl, hx1, hx2, hx3⟩ := fx
          clear hx1 hx2 hx3
          go_wp2_with fail
          refine hK.out _ _ (by exact KB_f_8.out) (fun hHeld => ?_)
          clear hK K hHeld
          refine wpAnyH_ready (rs := [5]) (by kernel_rfl) (by simp) ?_
          refine AllReadyH.cons rfl (fun K hK => ?_) ?_
          · go_simp
            refine (adds_any _ _ _ a0 (N : Int) n p (fun _ => false) M FA_f_8.out (MA.out.keep (keep_of_below BEL8.out)) uS (by omega) p30 HY.out).mono ?_
            rintro e qy ⟨xy, rfl, fy, bb⟩
            have BEL9 := h_bel BEL8 bb
            have FA_f_9 := h_fil FA_f_8 bb
            have FA_x_9 := h_fil FA_x_8 bb
            have KB_f_9 := h_blk KB_f_8 bb
            have KB_x_9 := h_blk KB_x_8 bb
            have KB_y_9 := h_blk KB_y_8 bb
            clear BEL8 FA_f_8 FA_x_8 KB_f_8 KB_x_8 KB_y_8
            clear bb
            have FA_y_9 : Hid (FilterAt qy (xy) a0 (N : Int) n (addsB a0 N n (fun _ => false) M p)) := fy
            obtain ⟨vy, rfl, Ay, cy, bby, ooy, rfl, hx1, hx2, hx3⟩ := fy
            clear hx1 hx2 hx3
            go_wp2_with fail
            refine hK.out _ _ (by exact KB_f_9.out) (fun hHeld => ?_)
            clear hK K hHeld
            refine wpAnyH_ready (rs := [8]) (by kernel_rfl) (by simp) ?_
            refine AllReadyH.cons rfl (fun K hK => ?_) ?_
            rotate_left
            · exact AllReadyH.nil
            have cx0 : qy.cell? ⟨gx, 0, none⟩ = some (.int .u64 0) := KB_x_9.out.cell 0
            have cf0 := KB_x_9.out.frozen 0
            have cx1 : qy.cell? ⟨gx, 1, none⟩ = some (.int .i64 0) := KB_x_9.out.cell 1
            have cf1 := KB_x_9.out.frozen 1
            have cx2 : qy.cell? ⟨gx, 2, none⟩ = some (.slice none 0 0) := KB_x_9.out.cell 2
            have cf2 := KB_x_9.out.frozen 2
            go_simp
            clear cx0 cf0 cx1 cf1 cx2 cf2
            obtain ⟨v32, hvv32⟩ : ∃ q, q = (((qy.setCell ⟨gx, 0, none⟩ (.int .u64 a0)).setCell ⟨gx, 1, none⟩ (.int .i64 (N : Int))).setCell ⟨gx, 2, none⟩ (.slice Ax n cx)) := ⟨_, rfl⟩
            rw [← hvv32]
            have pe : v32 = put3 qy gx (.int .u64 a0) (.int .i64 (N : Int)) (.slice Ax n cx) := hvv32
            have BEL10 := p_bel pe BEL9 GE_x
            have FA_f_10 := p_fil pe KB_x_9 FA_f_9
            have FA_x_10 := p_fil pe KB_x_9 FA_x_9
            have FA_y_10 := p_fil pe KB_x_9 FA_y_9
            have KB_f_10 := p_oth pe KB_f_9 (by first | exact NE_f_x | exact n_sym NE_x_f)
            have KB_x_10 := p_blk pe KB_x_9
            have KB_y_10 := p_oth pe KB_y_9 (by first | exact NE_y_x | exact n_sym NE_x_y)
            clear pe hvv32 BEL9 FA_f_9 FA_x_9 FA_y_9 KB_f_9 KB_x_9 KB_y_9
            refine hK.out _ _ (by exact KB_f_10.out) (fun hHeld => ?_)
            clear hK K hHeld
            refine wpAnyH_ready (rs := [9]) (by kernel_rfl) (by simp) ?_
            refine AllReadyH.cons rfl (fun K hK => ?_) ?_
            rotate_left
            · exact AllReadyH.nil
            have cx0 : v32.cell? ⟨gy, 0, none⟩ = some (.int .u64 0) := KB_y_10.out.cell 0
            have cf0 := KB_y_10.out.frozen 0
            have cx1 : v32.cell? ⟨gy, 1, none⟩ = some (.int .i64 0) := KB_y_10.out.cell 1
            have cf1 := KB_y_10.out.frozen 1
            have cx2 : v32.cell? ⟨gy, 2, none⟩ = some (.slice none 0 0) := KB_y_10.out.cell 2
            have cf2 := KB_y_10.out.frozen 2
            go_simp
            clear cx0 cf0 cx1 cf1 cx2 cf2
            obtain ⟨v33, hvv33⟩ : ∃ q, q = (((v32.setCell ⟨gy, 0, none⟩ (.int .u64 a0)).setCell ⟨gy, 1, none⟩ (.int .i64 (N : Int))).setCell ⟨gy, 2, none⟩ (.slice Ay n cy)) := ⟨_, rfl⟩
            rw [← hvv33]
            have pe : v33 = put3 v32 gy (.int .u64 a0) (.int .i64 (N : Int)) (.slice Ay n cy) := hvv33
            have BEL11 := p_bel pe BEL10 GE_y
            have FA_f_11 := p_fil pe KB_y_10 FA_f_10
            have FA_x_11 := p_fil pe KB_y_10 FA_x_10
            have FA_y_11 := p_fil pe KB_y_10 FA_y_10
            have KB_f_11 := p_oth pe KB_f_10 (by first | exact NE_f_y | exact n_sym NE_y_f)
            have KB_x_11 := p_oth pe KB_x_10 (by first | exact NE_x_y | exact n_sym NE_y_x)
            have KB_y_11 := p_blk pe KB_y_10
            clear pe hvv33 BEL10 FA_f_10 FA_x_10 FA_y_10 KB_f_10 KB_x_10 KB_y_10
            refine hK.out _ _ (by exact KB_f_11.out) (fun hHeld => ?_)
            clear hK K hHeld
            refine wpAnyH_done (by kernel_rfl) ?_ _
            refine NoPanic.normal ?_
            go_wp2_with fail
            go_meet
            case rel => exact ⟨gx, gy, Ax, cx, Ay, cy, ⟨rfl, rfl⟩, ⟨BEL11.out, KB_x_11.out, KB_y_11.out, FA_x_11.out, FA_y_11.out⟩⟩
          exact AllReadyH.nil
        exact AllReadyH.nil
      exact AllReadyH.nil
    refine AllReadyH.cons rfl (fun K hK => ?_) ?_
    · have GE_y : Hid (w.heap.size ≤ v1.heap.size) := BEL5.out.size
      have NE_f_y : Hid (gf ≠ v1.heap.size) := Nat.ne_of_lt KB_f_5.out.lt
      have bb := bel_alloc v1 (.cells #[.int .u64 0, .int .i64 0, .slice none 0 0] 25)
      have BEL6 := h_bel BEL5 bb
      have FA_f_6 := h_fil FA_f_5 bb
      have KB_f_6 := h_blk KB_f_5 bb
      clear BEL5 FA_f_5 KB_f_5
      clear bb
      have KB_y_6 : Hid (Blk (v1.alloc (.cells #[.int .u64 0, .int .i64 0, .slice none 0 0] 25)) (v1.heap.size) 25 #[.int .u64 0, .int .i64 0, .slice none 0 0]) := Blk.new _ _ _
      go_simp
      generalize (v1.alloc (.cells #[.int .u64 0, .int .i64 0, .slice none 0 0] 25)) = v34 at BEL6 FA_f_6 KB_f_6 KB_y_6 ⊢
      generalize v1.heap.size = gy at GE_y KB_y_6 NE_f_y ⊢
      refine hK.out _ _ (by exact KB_f_6.out) (fun hHeld => ?_)
      clear hK K hHeld
      refine wpAnyH_ready (rs := [2, 6]) (by kernel_rfl) (by simp) ?_
      refine AllReadyH.cons rfl (fun K hK => ?_) ?_
      · go_simp
        refine (adds_any _ _ _ a0 (N : Int) n m (fun _ => false) L FA_f_6.out (LA.out.keep (keep_of_below BEL6.out)) uS (by omega) m30 HZ.out).mono ?_
        rintro e qx ⟨xx, rfl, fx, bb⟩
        have BEL7 := h_bel BEL6 bb
        have FA_f_7 := h_fil FA_f_6 bb
        have KB_f_7 := h_blk KB_f_6 bb
        have KB_y_7 := h_blk KB_y_6 bb
        clear BEL6 FA_f_6 KB_f_6 KB_y_6
        clear bb
        have FA_x_7 : Hid (FilterAt qx (xx) a0 (N : Int) n (addsB a0 N n (fun _ => false) L m)) := fx
        obtain ⟨vx, rfl, Ax, cx, bbx, oox, rfl, hx1, hx2, hx3⟩ := fx
        clear hx1 hx2 hx3
        go_wp2_with fail
        refine hK.out _ _ (by exact KB_f_7.out) (fun hHeld => ?_)
        clear hK K hHeld
        refine wpAnyH_ready (rs := [5, 6]) (by kernel_rfl) (by simp) ?_
        refine AllReadyH.cons rfl (fun K hK => ?_) ?_
        · go_simp
          refine (adds_any _ _ _ a0 (N : Int) n p (fun _ => false) M FA_f_7.out (MA.out.keep (keep_of_below BEL7.out)) uS (by omega) p30 HY.out).mono ?_
          rintro e qy ⟨xy, rfl, fy, bb⟩
          have BEL8 := h_bel BEL7 bb
          have FA_f_8 := h_fil FA_f_7 bb
          have FA_x_8 := h_fil FA_x_7 bb
          have KB_f_8 := h_blk KB_f_7 bb
          have KB_y_8 := h_blk KB_y_7 bb
          clear BEL7 FA_f_7 FA_x_7 KB_f_7 KB_y_7
          clear bb
          have FA_y_8 : Hid (FilterAt qy (xy) a0 (N : Int) n (addsB a0 N n (fun _ => false) M p)) := fy
          obtain ⟨vy, rfl, Ay, cy, bby, ooy, rfl, hx1, hx2, hx3⟩ := fy
          clear hx1 hx2 hx3
          go_wp2_with fail
          refine hK.out _ _ (by exact KB_f_8.out) (fun hHeld => ?_)
          clear hK K hHeld
          refine wpAnyH_ready (rs := [6]) (by kernel_rfl) (by simp) ?_
          refine AllReadyH.cons rfl (fun K hK => ?_) ?_
          · have GE_x : Hid (w.heap.size ≤ qy.heap.size) := BEL8.out.size
            have NE_f_x : Hid (gf ≠ qy.heap.size) := Nat.ne_of_lt KB_f_8.out.lt
            have NE_y_x : Hid (gy ≠ qy.heap.size) := Nat.ne_of_lt KB_y_8.out.lt
            have bb := bel_alloc qy (.cells #[.int .u64 0, .int .i64 0, .slice none 0 0] 25)
            have BEL9 := h_bel BEL8 bb
            have FA_f_9 := h_fil FA_f_8 bb
            have FA_x_9 := h_fil FA_x_8 bb
            have FA_y_9 := h_fil FA_y_8 bb
            have KB_f_9 := h_blk KB_f_8 bb
            have KB_y_9 := h_blk KB_y_8 bb
            clear BEL8 FA_f_8 FA_x_8 FA_y_8 KB_f_8 KB_y_8
            clear bb
            have KB_x_9 : Hid (Blk (qy.alloc (.cells #[.int .u64 0, .int .i64 0, .slice none 0 0] 25)) (qy.heap.size) 25 #[.int .u64 0, .int .i64 0, .slice none 0 0]) := Blk.new _ _ _
            go_simp
            generalize (qy.alloc (.cells #[.int .u64 0, .int .i64 0, .slice none 0 0] 25)) = v35 at BEL9 FA_f_9 FA_x_9 FA_y_9 KB_f_9 KB_y_9 KB_x_9 ⊢
            generalize qy.heap.size = gx at GE_x KB_x_9 NE_f_x NE_y_x ⊢
            refine hK.out _ _ (by exact KB_f_9.out) (fun hHeld => ?_)
            clear hK K hHeld
            refine wpAnyH_ready (rs := [8]) (by kernel_rfl) (by simp) ?_
            refine AllReadyH.cons rfl (fun K hK => ?_) ?_
            rotate_left
            · exact AllReadyH.nil
            have cx0 : v35.cell? ⟨gx, 0, none⟩ = some (.int .u64 0) := KB_x_9.out.cell 0
            have cf0 := KB_x_9.out.frozen 0
            have cx1 : v35.cell? ⟨gx, 1, none⟩ = some (.int .i64 0) := KB_x_9.out.cell 1
            have cf1 := KB_x_9.out.frozen 1
            have cx2 : v35.cell? ⟨gx, 2, none⟩ = some (.slice none 0 0) := KB_x_9.out.cell 2
            have cf2 := KB_x_9.out.frozen 2
            go_simp
            clear cx0 cf0 cx1 cf1 cx2 cf2
            obtain ⟨v36, hvv36⟩ : ∃ q, q = (((v35.setCell ⟨gx, 0, none⟩ (.int .u64 a0)).setCell ⟨gx, 1, none⟩ (.int .i64 (N : Int))).setCell ⟨gx, 2, none⟩ (.slice Ax n cx)) := ⟨_, rfl⟩
            rw [← hvv36]
            have pe : v36 = put3 v35 gx (.int .u64 a0) (.int .i64 (N : Int)) (.slice Ax n cx) := hvv36
            have BEL10 := p_bel pe BEL9 GE_x
            have FA_f_10 := p_fil pe KB_x_9 FA_f_9
            have FA_x_10 := p_fil pe KB_x_9 FA_x_9
            have FA_y_10 := p_fil pe KB_x_9 FA_y_9
            have KB_f_10 := p_oth pe KB_f_9 (by first | exact NE_f_x | exact n_sym NE_x_f)
            have KB_y_10 := p_oth pe KB_y_9 (by first | exact NE_y_x | exact n_sym NE_x_y)
            have KB_x_10 := p_blk pe KB_x_9
            clear pe hvv36 BEL9 FA_f_9 FA_x_9 FA_y_9 KB_f_9 KB_y_9 KB_x_9
            refine hK.out _ _ (by exact KB_f_10.out) (fun hHeld => ?_)
            clear hK K hHeld
            refine wpAnyH_ready (rs := [9]) (by kernel_rfl) (by simp) ?_
            refine AllReadyH.cons rfl (fun K hK => ?_) ?_
            rotate_left
            · exact AllReadyH.nil
            have cx0 : v36.cell? ⟨gy, 0, none⟩ = some (.int .u64 0) := KB_y_10.out.cell 0
            have cf0 := KB_y_10.out.frozen 0
            have cx1 : v36.cell? ⟨gy, 1, none⟩ = some (.int .i64 0) := KB_y_10.out.cell 1
            have cf1 := KB_y_10.out.frozen 1
            have cx2 : v36.cell? ⟨gy, 2, none⟩ = some (.slice none 0 0) := KB_y_10.out.cell 2
            have cf2 := KB_y_10.out.frozen 2
            go_simp
            clear cx0 cf0 cx1 cf1 cx2 cf2
            obtain ⟨v37, hvv37⟩ : ∃ q, q = (((v36.setCell ⟨gy, 0, none⟩ (.int .u64 a0)).setCell ⟨gy, 1, none⟩ (.int .i64 (N : Int))).setCell ⟨gy, 2, none⟩ (.slice Ay n cy)) := ⟨_, rfl⟩
            rw [← hvv37]
            have pe : v37 = put3 v36 gy (.int .u64 a0) (.int .i64 (N : Int)) (.slice Ay n cy) := hvv37
            have BEL11 := p_bel pe BEL10 GE_y
            have FA_f_11 := p_fil pe KB_y_10 FA_f_10
            have FA_x_11 := p_fil pe KB_y_10 FA_x_10
            have FA_y_11 := p_fil pe KB_y_10 FA_y_10
            have KB_f_11 := p_oth pe KB_f_10 (by first | exact NE_f_y | exact n_sym NE_y_f)
            have KB_y_11 := p_blk pe KB_y_10
            have KB_x_11 := p_oth pe KB_x_10 (by first | exact NE_x_y | exact n_sym NE_y_x)
            clear pe hvv37 BEL10 FA_f_10 FA_x_10 FA_y_10 KB_f_10 KB_y_10 KB_x_10
            refine hK.out _ _ (by exact KB_f_11.out) (fun hHeld => ?_)
            clear hK K hHeld
            refine wpAnyH_done (by kernel_rfl) ?_ _
            refine NoPanic.normal ?_
            go_wp2_with fail
            go_meet
            case rel => exact ⟨gx, gy, Ax, cx, Ay, cy, ⟨rfl, rfl⟩, ⟨BEL11.out, KB_x_11.out, KB_y_11.out, FA_x_11.out, FA_y_11.out⟩⟩
          exact AllReadyH.nil
        refine AllReadyH.cons rfl (fun K hK => ?_) ?_
        · have GE_x : Hid (w.heap.size ≤ qx.heap.size) := BEL7.out.size
          have NE_f_x : Hid (gf ≠ qx.heap.size) := Nat.ne_of_lt KB_f_7.out.lt
          have NE_y_x : Hid (gy ≠ qx.heap.size) := Nat.ne_of_lt KB_y_7.out.lt
          have bb := bel_alloc qx (.cells #[.int .u64 0, .int .i64 0, .slice none 0 0] 25)
          have BEL8 := h_bel BEL7 bb
          have FA_f_8 := h_fil FA_f_7 bb
          have FA_x_8 := h_fil FA_x_7 bb
          have KB_f_8 := h_blk KB_f_7 bb
          have KB_y_8 := h_blk KB_y_7 bb
          clear BEL7 FA_f_7 FA_x_7 KB_f_7 KB_y_7
          clear bb
          have KB_x_8 : Hid (Blk (qx.alloc (.cells #[.int .u64 0, .int .i64 0, .slice none 0 0] 25)) (qx.heap.size) 25 #[.int .u64 0, .int .i64 0, .slice none 0 0]) := Blk.new _ _ _
          go_simp
          generalize (qx.alloc (.cells #[.int .u64 0, .int .i64 0, .slice none 0 0] 25)) = v38 at BEL8 FA_f_8 FA_x_8 KB_f_8 KB_y_8 KB_x_8 ⊢
          generalize qx.heap.size = gx at GE_x KB_x_8 NE_f_x NE_y_x ⊢
          refine hK.out _ _ (by exact KB_f_8.out) (fun hHeld => ?_)
          clear hK K hHeld
          refine wpAnyH_ready (rs := [5]) (by kernel_rfl) (by simp) ?_
          refine AllReadyH.cons rfl (fun K hK => ?_) ?_
          · go_simp
            refine (adds_any _ _ _ a0 (N : Int) n p (fun _ => false) M FA_f_8.out (MA.out.keep (keep_of_below BEL8.out)) uS (by omega) p30 HY.out).mono ?_
            rintro e qy ⟨xy, rfl, fy, bb⟩
            have BEL9 := h_bel BEL8 bb
            have FA_f_9 := h_fil FA_f_8 bb
            have FA_x_9 := h_fil FA_x_8 bb
            have KB_f_9 := h_blk KB_f_8 bb
            have KB_y_9 := h_blk KB_y_8 bb
            have KB_x_9 := h_blk KB_x_8 bb
            clear BEL8 FA_f_8 FA_x_8 KB_f_8 KB_y_8 KB_x_8
            clear bb
            have FA_y_9 : Hid (FilterAt qy (xy) a0 (N : Int) n (addsB a0 N n (fun _ => false) M p)) := fy
            obtain ⟨vy, rfl, Ay, cy, bby, ooy, rfl, hx1, hx2, hx3⟩ := fy
            clear hx1 hx2 hx3
            go_wp2_with fail
            refine hK.out _ _ (by exact KB_f_9.out) (fun hHeld => ?_)
            clear hK K hHeld
            refine wpAnyH_ready (rs := [8]) (by kernel_rfl) (by simp) ?_
            refine AllReadyH.cons rfl (fun K hK => ?_) ?_
            rotate_left
            · exact AllReadyH.nil
            have cx0 : qy.cell? ⟨gx, 0, none⟩ = some (.int .u64 0) := KB_x_9.out.cell 0
            have cf0 := KB_x_9.out.frozen 0
            have cx1 : qy.cell? ⟨gx, 1, none⟩ = some (.int .i64 0) := KB_x_9.out.cell 1
            have cf1 := KB_x_9.out.frozen 1
            have cx2 : qy.cell? ⟨gx, 2, none⟩ = some (.slice none 0 0) := KB_x_9.out.cell 2
            have cf2 := KB_x_9.out.frozen 2
            go_simp
            clear cx0 cf0 cx1 cf1 cx2 cf2
            obtain ⟨v39, hvv39⟩ : ∃ q, q = (((qy.setCell ⟨gx, 0, none⟩ (.int .u64 a0)).setCell ⟨gx, 1, none⟩ (.int .i64 (N : Int))).setCell ⟨gx, 2, none⟩ (.slice Ax n cx)) := ⟨_, rfl⟩
            rw [← hvv39]
            have pe : v39 = put3 qy gx (.int .u64 a0) (.int .i64 (N : Int)) (.slice Ax n cx) := hvv39
            have BEL10 := p_bel pe BEL9 GE_x
            have FA_f_10 := p_fil pe KB_x_9 FA_f_9
            have FA_x_10 := p_fil pe KB_x_9 FA_x_9
            have FA_y_10 := p_fil pe KB_x_9 FA_y_9
            have KB_f_10 := p_oth pe KB_f_9 (by first | exact NE_f_x | exact n_sym NE_x_f)
            have KB_y_10 := p_oth pe KB_y_9 (by first | exact NE_y_x | exact n_sym NE_x_y)
            have KB_x_10 := p_blk pe KB_x_9
            clear pe hvv39 BEL9 FA_f_9 FA_x_9 FA_y_9 KB_f_9 KB_y_9 KB_x_9
            refine hK.out _ _ (by exact KB_f_10.out) (fun hHeld => ?_)
            clear hK K hHeld
            refine wpAnyH_ready (rs := [9]) (by kernel_rfl) (by simp) ?_
            refine AllReadyH.cons rfl (fun K hK => ?_) ?_
            rotate_left
            · exact AllReadyH.nil
            have cx0 : v39.cell? ⟨gy, 0, none⟩ = some (.int .u64 0) := KB_y_10.out.cell 0
            have cf0 := KB_y_10.out.frozen 0
            have cx1 : v39.cell? ⟨gy, 1, none⟩ = some (.int .i64 0) := KB_y_10.out.cell 1
            have cf1 := KB_y_10.out.frozen 1
            have cx2 : v39.cell? ⟨gy, 2, none⟩ = some (.slice none 0 0) := KB_y_10.out.cell 2
            have cf2 := KB_y_10.out.frozen 2
            go_simp
            clear cx0 cf0 cx1 cf1 cx2 cf2
            obtain ⟨v40, hvv40⟩ : ∃ q, q = (((v39.setCell ⟨gy, 0, none⟩ (.int .u64 a0)).setCell ⟨gy, 1, none⟩ (.int .i64 (N : Int))).setCell ⟨gy, 2, none⟩ (.slice Ay n cy)) := ⟨_, rfl⟩
            rw [← hvv40]
            have pe : v40 = put3 v39 gy (.int .u64 a0) (.int .i64 (N : Int)) (.slice Ay n cy) := hvv40
            have BEL11 := p_bel pe BEL10 GE_y
            have FA_f_11 := p_fil pe KB_y_10 FA_f_10
            have FA_x_11 := p_fil pe KB_y_10 FA_x_10
            have FA_y_11 := p_fil pe KB_y_10 FA_y_10
            have KB_f_11 := p_oth pe KB_f_10 (by first | exact NE_f_y | exact n_sym NE_y_f)
            have KB_y_11 := p_blk pe KB_y_10
            have KB_x_11 := p_oth pe KB_x_10 (by first | exact NE_x_y | exact n_sym NE_y_x)
            clear pe hvv40 BEL10 FA_f_10 FA_x_10 FA_y_10 KB_f_10 KB_y_10 KB_x_10
            refine hK.out _ _ (by exact KB_f_11.out) (fun hHeld => ?_)
            clear hK K hHeld
            refine wpAnyH_done (by kernel_rfl) ?_ _
            refine NoPanic.normal ?_
            go_wp2_with fail
            go_meet
            case rel => exact ⟨gx, gy, Ax, cx, Ay, cy, ⟨rfl, rfl⟩, ⟨BEL11.out, KB_x_11.out, KB_y_11.out, FA_x_11.out, FA_y_11.out⟩⟩
          exact AllReadyH.nil
        exact AllReadyH.nil
      refine AllReadyH.cons rfl (fun K hK => ?_) ?_
      · have GE_x : Hid (w.heap.size ≤ v34.heap.size) := BEL6.out.size
        have NE_f_x : Hid (gf ≠ v34.heap.size) := Nat.ne_of_lt KB_f_6.out.lt
        have NE_y_x : Hid (gy ≠ v34.heap.size) := Nat.ne_of_lt KB_y_6.out.lt
        have bb := bel_alloc v34 (.cells #[.int .u64 0, .int .i64 0, .slice none 0 0] 25)
        have BEL7 := h_bel BEL6 bb
        have FA_f_7 := h_fil FA_f_6 bb
        have KB_f_7 := h_blk KB_f_6 bb
        have KB_y_7 := h_blk KB_y_6 bb
        clear BEL6 FA_f_6 KB_f_6 KB_y_6
        clear bb
        have KB_x_7 : Hid (Blk (v34.alloc (.cells #[.int .u64 0, .int .i64 0, .slice none 0 0] 25)) (v34.heap.size) 25 #[.int .u64 0, .int .i64 0, .slice none 0 0]) := Blk.new _ _ _
        go_simp
        generalize (v34.alloc (.cells #[.int .u64 0, .int .i64 0, .slice none 0 0] 25)) = v41 at BEL7 FA_f_7 KB_f_7 KB_y_7 KB_x_7 ⊢
        generalize v34.heap.size = gx at GE_x KB_x_7 NE_f_x NE_y_x ⊢
        refine hK.out _ _ (by exact KB_f_7.out) (fun hHeld => ?_)
        clear hK K hHeld
        refine wpAnyH_ready (rs := [2]) (by kernel_rfl) (by simp) ?_
        refine AllReadyH.cons rfl (fun K hK => ?_) ?_
        · go_simp
          refine (adds_any _ _ _ a0 (N : Int) n m (fun _ => false) L FA_f_7.out (LA.out.keep (keep_of_below BEL7.out)) uS (by omega) m30 HZ.out).mono ?_
          rintro e qx ⟨xx, rfl, fx, bb⟩
          have BEL8 := h_bel BEL7 bb
          have FA_f_8 := h_fil FA_f_7 bb
          have KB_f_8 := h_blk KB_f_7 bb
          have KB_y_8 := h_blk KB_y_7 bb
          have KB_x_8 := h_blk KB_x_7 bb
          clear BEL7 FA_f_7 KB_f_7 KB_y_7 KB_x_7
          clear bb
          have FA_x_8 : Hid (FilterAt qx (xx) a0 (N : Int) n (addsB a0 N n (fun _ => false) L m)) := fx
          obtain ⟨vx, rfl, Ax, cx, bbx, oox, rfl, hx1, hx2, hx3⟩ := fx
          clear hx1 hx2 hx3
          go_wp2_with fail
          refine hK.out _ _ (by exact KB_f_8.out) (fun hHeld => ?_)
          clear hK K hHeld
          refine wpAnyH_ready (rs := [5]) (by kernel_rfl) (by simp) ?_
          refine AllReadyH.cons rfl (fun K hK => ?_) ?_
          · go_simp
            refine (adds_any _ _ _ a0 (N : Int) n p (fun _ => false) M FA_f_8.out (MA.out.keep (keep_of_below BEL8.out)) uS (by omega) p30 HY.out).mono ?_
            rintro e qy ⟨xy, rfl, fy, bb⟩
            have BEL9 := h_bel BEL8 bb
            have FA_f_9 := h_fil FA_f_8 bb
            have FA_x_9 := h_fil FA_x_8 bb
            have KB_f_9 := h_blk KB_f_8 bb
            have KB_y_9 := h_blk KB_y_8 bb
            have KB_x_9 := h_blk KB_x_8 bb
            clear BEL8 FA_f_8 FA_x_8 KB_f_8 KB_y_8 KB_x_8
            clear bb
            have FA_y_9 : Hid (FilterAt qy (xy) a0 (N : Int) n (addsB a0 N n (fun _ => false) M p)) := fy
            obtain ⟨vy, rfl, Ay, cy, bby, ooy, rfl, hx1, hx2, hx3⟩ := fy
            clear hx1 hx2 hx3
            go_wp2_with fail
            refine hK.out _ _ (by exact KB_f_9.out) (fun hHeld => ?_)
            clear hK K hHeld
            refine wpAnyH_ready (rs := [8]) (by kernel_rfl) (by simp) ?_
            refine AllReadyH.cons rfl (fun K hK => ?_) ?_
            rotate_left
            · exact AllReadyH.nil
            have cx0 : qy.cell? ⟨gx, 0, none⟩ = some (.int .u64 0) := KB_x_9.out.cell 0
            have cf0 := KB_x_9.out.frozen 0
            have cx1 : qy.cell? ⟨gx, 1, none⟩ = some (.int .i64 0) := KB_x_9.out.cell 1
            have cf1 := KB_x_9.out.frozen 1
            have cx2 : qy.cell? ⟨gx, 2, none⟩ = some (.slice none 0 0) := KB_x_9.out.cell 2
            have cf2 := KB_x_9.out.frozen 2
            go_simp
            clear cx0 cf0 cx1 cf1 cx2 cf2
            obtain ⟨v42, hvv42⟩ : ∃ q, q = (((qy.setCell ⟨gx, 0, none⟩ (.int .u64 a0)).setCell ⟨gx, 1, none⟩ (.int .i64 (N : Int))).setCell ⟨gx, 2, none⟩ (.slice Ax n cx)) := ⟨_, rfl⟩
            rw [← hvv42]
            have pe : v42 = put3 qy gx (.int .u64 a0) (.int .i64 (N : Int)) (.slice Ax n cx) := hvv42
            have BEL10 := p_bel pe BEL9 GE_x
            have FA_f_10 := p_fil pe KB_x_9 FA_f_9
            have FA_x_10 := p_fil pe KB_x_9 FA_x_9
            have FA_y_10 := p_fil pe KB_x_9 FA_y_9
            have KB_f_10 := p_oth pe KB_f_9 (by first | exact NE_f_x | exact n_sym NE_x_f)
            have KB_y_10 := p_oth pe KB_y_9 (by first | exact NE_y_x | exact n_sym NE_x_y)
            have KB_x_10 := p_blk pe KB_x_9
            clear pe hvv42 BEL9 FA_f_9 FA_x_9 FA_y_9 KB_f_9 KB_y_9 KB_x_9
            refine hK.out _ _ (by exact KB_f_10.out) (fun hHeld => ?_)
            clear hK K hHeld
            refine wpAnyH_ready (rs := [9]) (by kernel_rfl) (by simp) ?_
            refine AllReadyH.cons rfl (fun K hK => ?_) ?_
            rotate_left
            · exact AllReadyH.nil
            have cx0 : v42.cell? ⟨gy, 0, none⟩ = some (.int .u64 0) := KB_y_10.out.cell 0
            have cf0 := KB_y_10.out.frozen 0
            have cx1 : v42.cell? ⟨gy, 1, none⟩ = some (.int .i64 0) := KB_y_10.out.cell 1
            have cf1 := KB_y_10.out.frozen 1
            have cx2 : v42.cell? ⟨gy, 2, none⟩ = some (.slice none 0 0) := KB_y_10.out.cell 2
            have cf2 := KB_y_10.out.frozen 2
            go_simp
            clear cx0 cf0 cx1 cf1 cx2 cf2
            obtain ⟨v43, hvv43⟩ : ∃ q, q = (((v42.setCell ⟨gy, 0, none⟩ (.int .u64 a0)).setCell ⟨gy, 1, none⟩ (.int .i64 (N : Int))).setCell ⟨gy, 2, none⟩ (.slice Ay n cy)) := ⟨_, rfl⟩
            rw [← hvv43]
            have pe : v43 = put3 v42 gy (.int .u64 a0) (.int .i64 (N : Int)) (.slice Ay n cy) := hvv43
            have BEL11 := p_bel pe BEL10 GE_y
            have FA_f_11 := p_fil pe KB_y_10 FA_f_10
            have FA_x_11 := p_fil pe KB_y_10 FA_x_10
            have FA_y_11 := p_fil pe KB_y_10 FA_y_10
            have KB_f_11 := p_oth pe KB_f_10 (by first | exact NE_f_y | exact n_sym NE_y_f)
            have KB_y_11 := p_blk pe KB_y_10
            have KB_x_11 := p_oth pe KB_x_10 (by first | exact NE_x_y | exact n_sym NE_y_x)
            clear pe hvv43 BEL10 FA_f_10 FA_x_10 FA_y_10 KB_f_10 KB_y_10 KB_x_10
            refine hK.out _ _ (by exact KB_f_11.out) (fun hHeld => ?_)
            clear hK K hHeld
            refine wpAnyH_done (by kernel_rfl) ?_ _
            refine NoPanic.normal ?_
            go_wp2_with fail
            go_meet
            case rel => exact ⟨gx, gy, Ax, cx, Ay, cy, ⟨rfl, rfl⟩, ⟨BEL11.out, KB_x_11.out, KB_y_11.out, FA_x_11.out, FA_y_11.out⟩⟩
          exact AllReadyH.nil
        exact AllReadyH.nil
      exact AllReadyH.nil
    exact AllReadyH.nil
  case rest =>
    obtain ⟨gx, gy, Ax, cx, Ay, cy, ⟨rfl, rfl⟩, T⟩ := hcut
    have BEL90 : Hid (Below w.heap.size w wc) := T.since
    have FA_x_90 : Hid (FilterAt wc (.agg #[.int .u64 a0, .int .i64 (N : Int), .slice Ax n cx]) a0 (N : Int) n (addsB a0 N n (fun _ => false) L m)) := T.fx
    have FA_y_90 : Hid (FilterAt wc (.agg #[.int .u64 a0, .int .i64 (N : Int), .slice Ay n cy]) a0 (N : Int) n (addsB a0 N n (fun _ => false) M p)) := T.fy
    have KB_x_90 : Hid (Blk wc (gx) 25 #[.int .u64 a0, .int .i64 (N : Int), .slice Ax n cx]) := T.bx
    have KB_y_90 : Hid (Blk wc (gy) 25 #[.int .u64 a0, .int .i64 (N : Int), .slice Ay n cy]) := T.yx
    clear T BEL4 FA_f_4 KB_f_4 BELG
    go_upto_region 7 with fail
    go_cut [15, 16] from 23 (fun s15 s16 wx => ∃ gp gq Ap cp Aq cq, (s15 = .pointer (some ⟨gp, 0, none⟩) ∧ s16 = .pointer (some ⟨gq, 0, none⟩)) ∧ TwoIn w wx gp gq a0 N n Ap cp Aq cq (addsB a0 N n (addsB a0 N n (fun _ => false) L m) M p) (addsB a0 N n (addsB a0 N n (fun _ => false) M p) L m) ∧ TwoIn w wx gx gy a0 N n Ax cx Ay cy (addsB a0 N n (fun _ => false) L m) (addsB a0 N n (fun _ => false) M p))
    case first =>
      refine wp_region_noPanic ?_
      have BEL91 : Hid (Below w.heap.size w wc.drew) := bel_trans BEL90.out ((Below.refl _ _).drew)
      have FA_x_91 : Hid (FilterAt wc.drew (.agg #[.int .u64 a0, .int .i64 (N : Int), .slice Ax n cx]) a0 (N : Int) n (addsB a0 N n (fun _ => false) L m)) := FA_x_90.out.keep (keep_of_below ((Below.refl _ _).drew))
      have FA_y_91 : Hid (FilterAt wc.drew (.agg #[.int .u64 a0, .int .i64 (N : Int), .slice Ay n cy]) a0 (N : Int) n (addsB a0 N n (fun _ => false) M p)) := FA_y_90.out.keep (keep_of_below ((Below.refl _ _).drew))
      have KB_x_91 : Hid (Blk wc.drew (gx) 25 #[.int .u64 a0, .int .i64 (N : Int), .slice Ax n cx]) := KB_x_90.out.since ((Below.refl _ _).drew)
      have KB_y_91 : Hid (Blk wc.drew (gy) 25 #[.int .u64 a0, .int .i64 (N : Int), .slice Ay n cy]) := KB_y_90.out.since ((Below.refl _ _).drew)
      clear BEL90 FA_x_90 FA_y_90 KB_x_90 KB_y_90
      refine wp_region_held_drew (S := (fun w' => Blk w' (gx) 25 #[.int .u64 a0, .int .i64 (N : Int), .slice Ax n cx] ∧ Blk w' (gy) 25 #[.int .u64 a0, .int .i64 (N : Int), .slice Ay n cy])) (by kernel_rfl) ⟨KB_x_91.out, KB_y_91.out⟩ (fun hHeld => ?_)
      clear hHeld
      generalize wc.drew = v1 at BEL91 FA_x_91 FA_y_91 KB_x_91 KB_y_91 ⊢
      refine wpAnyH_take (i := 0) (v := ?_) rfl (by kernel_rfl) (by kernel_rfl) (by kernel_rfl) (fun _ _ _ h => h) (Or.inl ⟨by rfl, ?_⟩) ⟨KB_x_91.out, KB_y_91.out⟩ ?_
      rotate_left
      · intro w hSw; have cl0 := hSw.1.cell 0; have cl1 := hSw.1.cell 1; have cl2 := hSw.1.cell 2; go_simp; first | done | with_reducible rfl
      simp only [List.getElem_toArray, List.getElem_cons_zero, Act.put, List.setIfInBounds_toArray, List.set_cons_zero, List.set_cons_succ]
      refine wpAnyH_take (i := 1) (v := ?_) rfl (by kernel_rfl) (by kernel_rfl) (by kernel_rfl) (fun _ _ _ h => h) (Or.inl ⟨by rfl, ?_⟩) ⟨KB_x_91.out, KB_y_91.out⟩ ?_
      rotate_left
      · intro w hSw; go_simp; first | done | with_reducible rfl
      simp only [List.getElem_toArray, List.getElem_cons_zero, List.getElem_cons_succ, Act.put, List.setIfInBounds_toArray, List.set_cons_zero, List.set_cons_succ]
      refine wpAnyH_take (i := 3) (v := ?_) rfl (by kernel_rfl) (by kernel_rfl) (by kernel_rfl) (fun _ _ _ h => h) (Or.inl ⟨by rfl, ?_⟩) ⟨KB_x_91.out, KB_y_91.out⟩ ?_
      rotate_left
      · intro w hSw; have cl0 := hSw.2.cell 0; have cl1 := hSw.2.cell 1; have cl2 := hSw.2.cell 2; go_simp; first | done | with_reducible rfl
      simp only [List.getElem_toArray, List.getElem_cons_zero, List.getElem_cons_succ, Act.put, List.setIfInBounds_toArray, List.set_cons_zero, List.set_cons_succ]
      refine wpAnyH_take (i := 4) (v := ?_) rfl (by kernel_rfl) (by kernel_rfl) (by kernel_rfl) (fun _ _ _ h => h) (Or.inl ⟨by rfl, ?_⟩) ⟨KB_x_91.out, KB_y_91.out⟩ ?_
      rotate_left
      · intro w hSw; go_simp; first | done | with_reducible rfl
      simp only [List.getElem_toArray, List.getElem_cons_zero, List.getElem_cons_succ, Act.put, List.setIfInBounds_toArray, List.set_cons_zero, List.set_cons_succ]
      refine wpAnyH_ready (rs := [2, 6, 7]) (by kernel_rfl) (by simp) ?_
      refine AllReadyH.cons rfl (fun K hK => ?_) ?_
      · go_simp
        refine (adds_any _ _ _ a0 (N : Int) n p (addsB a0 N n (fun _ => false) L m) M FA_x_91.out (MA.out.keep (keep_of_below BEL91.out)) uS (by omega) p30 HY.out).mono ?_
        rintro e qp ⟨xp, rfl, fp, bb⟩
        have BEL92 := h_bel BEL91 bb
        have FA_x_92 := h_fil FA_x_91 bb
        have FA_y_92 := h_fil FA_y_91 bb
        have KB_x_92 := h_blk KB_x_91 bb
        have KB_y_92 := h_blk KB_y_91 bb
        clear BEL91 FA_x_91 FA_y_91 KB_x_91 KB_y_91
        clear bb
        have FA_p_92 : Hid (FilterAt qp (xp) a0 (N : Int) n (addsB a0 N n (addsB a0 N n (fun _ => false) L m) M p)) := fp
        obtain ⟨vp, rfl, Ap, cp, bbp, oop, rfl, hx1, hx2, hx3⟩ := fp
        clear hx1 hx2 hx3
        go_wp2_with fail
        refine hK.out _ _ (by exact ⟨KB_x_92.out, KB_y_92.out⟩) (fun hHeld => ?_)
        clear hK K hHeld
        refine wpAnyH_ready (rs := [5, 6, 7]) (by kernel_rfl) (by simp) ?_
        refine AllReadyH.cons rfl (fun K hK => ?_) ?_
        · go_simp
          refine (adds_any _ _ _ a0 (N : Int) n m (addsB a0 N n (fun _ => false) M p) L FA_y_92.out (LA.out.keep (keep_of_below BEL92.out)) uS (by omega) m30 HZ.out).mono ?_
          rintro e qq ⟨xq, rfl, fq, bb⟩
          have BEL93 := h_bel BEL92 bb
          have FA_x_93 := h_fil FA_x_92 bb
          have FA_y_93 := h_fil FA_y_92 bb
          have FA_p_93 := h_fil FA_p_92 bb
          have KB_x_93 := h_blk KB_x_92 bb
          have KB_y_93 := h_blk KB_y_92 bb
          clear BEL92 FA_x_92 FA_y_92 FA_p_92 KB_x_92 KB_y_92
          clear bb
          have FA_q_93 : Hid (FilterAt qq (xq) a0 (N : Int) n (addsB a0 N n (addsB a0 N n (fun _ => false) M p) L m)) := fq
          obtain ⟨vq, rfl, Aq, cq, bbq, ooq, rfl, hx1, hx2, hx3⟩ := fq
          clear hx1 hx2 hx3
          go_wp2_with fail
          refine hK.out _ _ (by exact ⟨KB_x_93.out, KB_y_93.out⟩) (fun hHeld => ?_)
          clear hK K hHeld
          refine wpAnyH_ready (rs := [6, 7]) (by kernel_rfl) (by simp) ?_
          refine AllReadyH.cons rfl (fun K hK => ?_) ?_
          · have GE_p : Hid (w.heap.size ≤ qq.heap.size) := BEL93.out.size
            have NE_x_p : Hid (gx ≠ qq.heap.size) := Nat.ne_of_lt KB_x_93.out.lt
            have NE_y_p : Hid (gy ≠ qq.heap.size) := Nat.ne_of_lt KB_y_93.out.lt
            have bb := bel_alloc qq (.cells #[.int .u64 0, .int .i64 0, .slice none 0 0] 25)
            have BEL94 := h_bel BEL93 bb
            have FA_x_94 := h_fil FA_x_93 bb
            have FA_y_94 := h_fil FA_y_93 bb
            have FA_p_94 := h_fil FA_p_93 bb
            have FA_q_94 := h_fil FA_q_93 bb
            have KB_x_94 := h_blk KB_x_93 bb
            have KB_y_94 := h_blk KB_y_93 bb
            clear BEL93 FA_x_93 FA_y_93 FA_p_93 FA_q_93 KB_x_93 KB_y_93
            clear bb
            have KB_p_94 : Hid (Blk (qq.alloc (.cells #[.int .u64 0, .int .i64 0, .slice none 0 0] 25)) (qq.heap.size) 25 #[.int .u64 0, .int .i64 0, .slice none 0 0]) := Blk.new _ _ _
            go_simp
            generalize (qq.alloc (.cells #[.int .u64 0, .int .i64 0, .slice none 0 0] 25)) = v2 at BEL94 FA_x_94 FA_y_94 FA_p_94 FA_q_94 KB_x_94 KB_y_94 KB_p_94 ⊢
            generalize qq.heap.size = gp at GE_p KB_p_94 NE_x_p NE_y_p ⊢
            refine hK.out _ _ (by exact ⟨KB_x_94.out, KB_y_94.out⟩) (fun hHeld => ?_)
            clear hK K hHeld
            refine wpAnyH_ready (rs := [7]) (by kernel_rfl) (by simp) ?_
            refine AllReadyH.cons rfl (fun K hK => ?_) ?_
            · have GE_q : Hid (w.heap.size ≤ v2.heap.size) := BEL94.out.size
              have NE_x_q : Hid (gx ≠ v2.heap.size) := Nat.ne_of_lt KB_x_94.out.lt
              have NE_y_q : Hid (gy ≠ v2.heap.size) := Nat.ne_of_lt KB_y_94.out.lt
              have NE_p_q : Hid (gp ≠ v2.heap.size) := Nat.ne_of_lt KB_p_94.out.lt
              have bb := bel_alloc v2 (.cells #[.int .u64 0, .int .i64 0, .slice none 0 0] 25)
              have BEL95 := h_bel BEL94 bb
              have FA_x_95 := h_fil FA_x_94 bb
              have FA_y_95 := h_fil FA_y_94 bb
              have FA_p_95 := h_fil FA_p_94 bb
              have FA_q_95 := h_fil FA_q_94 bb
              have KB_x_95 := h_blk KB_x_94 bb
              have KB_y_95 := h_blk KB_y_94 bb
              have KB_p_95 := h_blk KB_p_94 bb
              clear BEL94 FA_x_94 FA_y_94 FA_p_94 FA_q_94 KB_x_94 KB_y_94 KB_p_94
              clear bb
              have KB_q_95 : Hid (Blk (v2.alloc (.cells #[.int .u64 0, .int .i64 0, .slice none 0 0] 25)) (v2.heap.size) 25 #[.int .u64 0, .int .i64 0, .slice none 0 0]) := Blk.new _ _ _
              go_simp
              generalize (v2.alloc (.cells #[.int .u64 0, .int .i64 0, .slice none 0 0] 25)) = v3 at BEL95 FA_x_95 FA_y_95 FA_p_95 FA_q_95 KB_x_95 KB_y_95 KB_p_95 KB_q_95 ⊢
              generalize v2.heap.size = gq at GE_q KB_q_95 NE_x_q NE_y_q NE_p_q ⊢
              refine hK.out _ _ (by exact ⟨KB_x_95.out, KB_y_95.out⟩) (fun hHeld => ?_)
              clear hK K hHeld
              refine wpAnyH_ready (rs := [8]) (by kernel_rfl) (by simp) ?_
              refine AllReadyH.cons rfl (fun K hK => ?_) ?_
              rotate_left
              · exact AllReadyH.nil
              have cx0 : v3.cell? ⟨gp, 0, none⟩ = some (.int .u64 0) := KB_p_95.out.cell 0
              have cf0 := KB_p_95.out.frozen 0
              have cx1 : v3.cell? ⟨gp, 1, none⟩ = some (.int .i64 0) := KB_p_95.out.cell 1
              have cf1 := KB_p_95.out.frozen 1
              have cx2 : v3.cell? ⟨gp, 2, none⟩ = some (.slice none 0 0) := KB_p_95.out.cell 2
              have cf2 := KB_p_95.out.frozen 2
              go_simp
              clear cx0 cf0 cx1 cf1 cx2 cf2
              obtain ⟨v4, hvv4⟩ : ∃ q, q = (((v3.setCell ⟨gp, 0, none⟩ (.int .u64 a0)).setCell ⟨gp, 1, none⟩ (.int .i64 (N : Int))).setCell ⟨gp, 2, none⟩ (.slice Ap n cp)) := ⟨_, rfl⟩
              rw [← hvv4]
              have pe : v4 = put3 v3 gp (.int .u64 a0) (.int .i64 (N : Int)) (.slice Ap n cp) := hvv4
              have BEL96 := p_bel pe BEL95 GE_p
              have FA_x_96 := p_fil pe KB_p_95 FA_x_95
              have FA_y_96 := p_fil pe KB_p_95 FA_y_95
              have FA_p_96 := p_fil pe KB_p_95 FA_p_95
              have FA_q_96 := p_fil pe KB_p_95 FA_q_95
              have KB_x_96 := p_oth pe KB_x_95 (by first | exact NE_x_p | exact n_sym NE_p_x)
              have KB_y_96 := p_oth pe KB_y_95 (by first | exact NE_y_p | exact n_sym NE_p_y)
              have KB_p_96 := p_blk pe KB_p_95
              have KB_q_96 := p_oth pe KB_q_95 (by first | exact NE_q_p | exact n_sym NE_p_q)
              clear pe hvv4 BEL95 FA_x_95 FA_y_95 FA_p_95 FA_q_95 KB_x_95 KB_y_95 KB_p_95 KB_q_95
              refine hK.out _ _ (by exact ⟨KB_x_96.out, KB_y_96.out⟩) (fun hHeld => ?_)
              clear hK K hHeld
              refine wpAnyH_ready (rs := [9]) (by kernel_rfl) (by simp) ?_
              refine AllReadyH.cons rfl (fun K hK => ?_) ?_
              rotate_left
              · exact AllReadyH.nil
              have cx0 : v4.cell? ⟨gq, 0, none⟩ = some (.int .u64 0) := KB_q_96.out.cell 0
              have cf0 := KB_q_96.out.frozen 0
              have cx1 : v4.cell? ⟨gq, 1, none⟩ = some (.int .i64 0) := KB_q_96.out.cell 1
              have cf1 := KB_q_96.out.frozen 1
              have cx2 : v4.cell? ⟨gq, 2, none⟩ = some (.slice none 0 0) := KB_q_96.out.cell 2
              have cf2 := KB_q_96.out.frozen 2
              go_simp
              clear cx0 cf0 cx1 cf1 cx2 cf2
              obtain ⟨v5, hvv5⟩ : ∃ q, q = (((v4.setCell ⟨gq, 0, none⟩ (.int .u64 a0)).setCell ⟨gq, 1, none⟩ (.int .i64 (N : Int))).setCell ⟨gq, 2, none⟩ (.slice Aq n cq)) := ⟨_, rfl⟩
              rw [← hvv5]
              have pe : v5 = put3 v4 gq (.int .u64 a0) (.int .i64 (N : Int)) (.slice Aq n cq) := hvv5
              have BEL97 := p_bel pe BEL96 GE_q
              have FA_x_97 := p_fil pe KB_q_96 FA_x_96
              have FA_y_97 := p_fil pe KB_q_96 FA_y_96
              have FA_p_97 := p_fil pe KB_q_96 FA_p_96
              have FA_q_97 := p_fil pe KB_q_96 FA_q_96
              have KB_x_97 := p_oth pe KB_x_96 (by first | exact NE_x_q | exact n_sym NE_q_x)
              have KB_y_97 := p_oth pe KB_y_96 (by first | exact NE_y_q | exact n_sym NE_q_y)
              have KB_p_97 := p_oth pe KB_p_96 (by first | exact NE_p_q | exact n_sym NE_q_p)
              have KB_q_97 := p_blk pe KB_q_96
              clear pe hvv5 BEL96 FA_x_96 FA_y_96 FA_p_96 FA_q_96 KB_x_96 KB_y_96 KB_p_96 KB_q_96
              refine hK.out _ _ (by exact ⟨KB_x_97.out, KB_y_97.out⟩) (fun hHeld => ?_)
              clear hK K hHeld
              refine wpAnyH_done (by kernel_rfl) ?_ _
              refine NoPanic.normal ?_
              go_wp2_with fail
              go_meet
              case rel => exact ⟨gp, gq, Ap, cp, Aq, cq, ⟨rfl, rfl⟩, ⟨BEL97.out, KB_p_97.out, KB_q_97.out, FA_p_97.out, FA_q_97.out⟩, ⟨BEL97.out, KB_x_97.out, KB_y_97.out, FA_x_97.out, FA_y_97.out⟩⟩
            exact AllReadyH.nil
          refine AllReadyH.cons rfl (fun K hK => ?_) ?_
          · have GE_q : Hid (w.heap.size ≤ qq.heap.size) := BEL93.out.size
            have NE_x_q : Hid (gx ≠ qq.heap.size) := Nat.ne_of_lt KB_x_93.out.lt
            have NE_y_q : Hid (gy ≠ qq.heap.size) := Nat.ne_of_lt KB_y_93.out.lt
            have bb := bel_alloc qq (.cells #[.int .u64 0, .int .i64 0, .slice none 0 0] 25)
            have BEL94 := h_bel BEL93 bb
            have FA_x_94 := h_fil FA_x_93 bb
            have FA_y_94 := h_fil FA_y_93 bb
            have FA_p_94 := h_fil FA_p_93 bb
            have FA_q_94 := h_fil FA_q_93 bb
            have KB_x_94 := h_blk KB_x_93 bb
            have KB_y_94 := h_blk KB_y_93 bb
            clear BEL93 FA_x_93 FA_y_93 FA_p_93 FA_q_93 KB_x_93 KB_y_93
            clear bb
            have KB_q_94 : Hid (Blk (qq.alloc (.cells #[.int .u64 0, .int .i64 0, .slice none 0 0] 25)) (qq.heap.size) 25 #[.int .u64 0, .int .i64 0, .slice none 0 0]) := Blk.new _ _ _
            go_simp
            generalize (qq.alloc (.cells #[.int .u64 0, .int .i64 0, .slice none 0 0] 25)) = v6 at BEL94 FA_x_94 FA_y_94 FA_p_94 FA_q_94 KB_x_94 KB_y_94 KB_q_94 ⊢
            generalize qq.heap.size = gq at GE_q KB_q_94 NE_x_q NE_y_q ⊢
            refine hK.out _ _ (by exact ⟨KB_x_94.out, KB_y_94.out⟩) (fun hHeld => ?_)
            clear hK K hHeld
            refine wpAnyH_ready (rs := [6]) (by kernel_rfl) (by simp) ?_
            refine AllReadyH.cons rfl (fun K hK => ?_) ?_
            · have GE_p : Hid (w.heap.size ≤ v6.heap.size) := BEL94.out.size
              have NE_x_p : Hid (gx ≠ v6.heap.size) := Nat.ne_of_lt KB_x_94.out.lt
              have NE_y_p : Hid (gy ≠ v6.heap.size) := Nat.ne_of_lt KB_y_94.out.lt
              have NE_q_p : Hid (gq ≠ v6.heap.size) := Nat.ne_of_lt KB_q_94.out.lt
              have bb := bel_alloc v6 (.cells #[.int .u64 0, .int .i64 0, .slice none 0 0] 25)
              have BEL95 := h_bel BEL94 bb
              have FA_x_95 := h_fil FA_x_94 bb
              have FA_y_95 := h_fil FA_y_94 bb
              have FA_p_95 := h_fil FA_p_94 bb
              have FA_q_95 := h_fil FA_q_94 bb
              have KB_x_95 := h_blk KB_x_94 bb
              have KB_y_95 := h_blk KB_y_94 bb
              have KB_q_95 := h_blk KB_q_94 bb
              clear BEL94 FA_x_94 FA_y_94 FA_p_94 FA_q_94 KB_x_94 KB_y_94 KB_q_94
              clear bb
              have KB_p_95 : Hid (Blk (v6.alloc (.cells #[.int .u64 0, .int .i64 0, .slice none 0 0] 25)) (v6.heap.size) 25 #[.int .u64 0, .int .i64 0, .slice none 0 0]) := Blk.new _ _ _
              go_simp
              generalize (v6.alloc (.cells #[.int .u64 0, .int .i64 0, .slice none 0 0] 25)) = v7 at BEL95 FA_x_95 FA_y_95 FA_p_95 FA_q_95 KB_x_95 KB_y_95 KB_q_95 KB_p_95 ⊢
              generalize v6.heap.size = gp at GE_p KB_p_95 NE_x_p NE_y_p NE_q_p ⊢
              refine hK.out _ _ (by exact ⟨KB_x_95.out, KB_y_95.out⟩) (fun hHeld => ?_)
              clear hK K hHeld
              refine wpAnyH_ready (rs := [8]) (by kernel_rfl) (by simp) ?_
              refine AllReadyH.cons rfl (fun K hK => ?_) ?_
              rotate_left
              · exact AllReadyH.nil
              have cx0 : v7.cell? ⟨gp, 0, none⟩ = some (.int .u64 0) := KB_p_95.out.cell 0
              have cf0 := KB_p_95.out.frozen 0
              have cx1 : v7.cell? ⟨gp, 1, none⟩ = some (.int .i64 0) := KB_p_95.out.cell 1
              have cf1 := KB_p_95.out.frozen 1
              have cx2 : v7.cell? ⟨gp, 2, none⟩ = some (.slice none 0 0) := KB_p_95.out.cell 2
              have cf2 := KB_p_95.out.frozen 2
              go_simp
              clear cx0 cf0 cx1 cf1 cx2 cf2
              obtain ⟨v8, hvv8⟩ : ∃ q, q = (((v7.setCell ⟨gp, 0, none⟩ (.int .u64 a0)).setCell ⟨gp, 1, none⟩ (.int .i64 (N : Int))).setCell ⟨gp, 2, none⟩ (.slice Ap n cp)) := ⟨_, rfl⟩
              rw [← hvv8]
              have pe : v8 = put3 v7 gp (.int .u64 a0) (.int .i64 (N : Int)) (.slice Ap n cp) := hvv8
              have BEL96 := p_bel pe BEL95 GE_p
              have FA_x_96 := p_fil pe KB_p_95 FA_x_95
              have FA_y_96 := p_fil pe KB_p_95 FA_y_95
              have FA_p_96 := p_fil pe KB_p_95 FA_p_95
              have FA_q_96 := p_fil pe KB_p_95 FA_q_95
              have KB_x_96 := p_oth pe KB_x_95 (by first | exact NE_x_p | exact n_sym NE_p_x)
              have KB_y_96 := p_oth pe KB_y_95 (by first | exact NE_y_p | exact n_sym NE_p_y)
              have KB_q_96 := p_oth pe KB_q_95 (by first | exact NE_q_p | exact n_sym NE_p_q)
              have KB_p_96 := p_blk pe KB_p_95
              clear pe hvv8 BEL95 FA_x_95 FA_y_95 FA_p_95 FA_q_95 KB_x_95 KB_y_95 KB_q_95 KB_p_95
              refine hK.out _ _ (by exact ⟨KB_x_96.out, KB_y_96.out⟩) (fun hHeld => ?_)
              clear hK K hHeld
              refine wpAnyH_ready (rs := [9]) (by kernel_rfl) (by simp) ?_
              refine AllReadyH.cons rfl (fun K hK => ?_) ?_
              rotate_left
              · exact AllReadyH.nil
              have cx0 : v8.cell? ⟨gq, 0, none⟩ = some (.int .u64 0) := KB_q_96.out.cell 0
              have cf0 := KB_q_96.out.frozen 0
              have cx1 : v8.cell? ⟨gq, 1, none⟩ = some (.int .i64 0) := KB_q_96.out.cell 1
              have cf1 := KB_q_96.out.frozen 1
              have cx2 : v8.cell? ⟨gq, 2, none⟩ = some (.slice none 0 0) := KB_q_96.out.cell 2
              have cf2 := KB_q_96.out.frozen 2
              go_simp
              clear cx0 cf0 cx1 cf1 cx2 cf2
              obtain ⟨v9, hvv9⟩ : ∃ q, q = (((v8.setCell ⟨gq, 0, none⟩ (.int .u64 a0)).setCell ⟨gq, 1, none⟩ (.int .i64 (N : Int))).setCell ⟨gq, 2, none⟩ (.slice Aq n cq)) := ⟨_, rfl⟩
              rw [← hvv9]
              have pe : v9 = put3 v8 gq (.int .u64 a0) (.int .i64 (N : Int)) (.slice Aq n cq) := hvv9
              have BEL97 := p_bel pe BEL96 GE_q
              have FA_x_97 := p_fil pe KB_q_96 FA_x_96
              have FA_y_97 := p_fil pe KB_q_96 FA_y_96
              have FA_p_97 := p_fil pe KB_q_96 FA_p_96
              have FA_q_97 := p_fil pe KB_q_96 FA_q_96
              have KB_x_97 := p_oth pe KB_x_96 (by first | exact NE_x_q | exact n_sym NE_q_x)
              have KB_y_97 := p_oth pe KB_y_96 (by first | exact NE_y_q | exact n_sym NE_q_y)
              have KB_q_97 := p_blk pe KB_q_96
              have KB_p_97 := p_oth pe KB_p_96 (by first | exact NE_p_q | exact n_sym NE_q_p)
              clear pe hvv9 BEL96 FA_x_96 FA_y_96 FA_p_96 FA_q_96 KB_x_96 KB_y_96 KB_q_96 KB_p_96
              refine hK.out _ _ (by exact ⟨KB_x_97.out, KB_y_97.out⟩) (fun hHeld => ?_)
              clear hK K hHeld
              refine wpAnyH_done (by kernel_rfl) ?_ _
              refine NoPanic.normal ?_
              go_wp2_with fail
              go_meet
              case rel => exact ⟨gp, gq, Ap, cp, Aq, cq, ⟨rfl, rfl⟩, ⟨BEL97.out, KB_p_97.out, KB_q_97.out, FA_p_97.out, FA_q_97.out⟩, ⟨BEL97.out, KB_x_97.out, KB_y_97.out, FA_x_97.out, FA_y_97.out⟩⟩
            exact AllReadyH.nil
          exact AllReadyH.nil
        refine AllReadyH.cons rfl (fun K hK => ?_) ?_
        · have GE_p : Hid (w.heap.size ≤ qp.heap.size) := BEL92.out.size
          have NE_x_p : Hid (gx ≠ qp.heap.size) := Nat.ne_of_lt KB_x_92.out.lt
          have NE_y_p : Hid (gy ≠ qp.heap.size) := Nat.ne_of_lt KB_y_92.out.lt
          have bb := bel_alloc qp (.cells #[.int .u64 0, .int .i64 0, .slice none 0 0] 25)
          have BEL93 := h_bel BEL92 bb
          have FA_x_93 := h_fil FA_x_92 bb
          have FA_y_93 := h_fil FA_y_92 bb
          have FA_p_93 := h_fil FA_p_92 bb
          have KB_x_93 := h_blk KB_x_92 bb
          have KB_y_93 := h_blk KB_y_92 bb
          clear BEL92 FA_x_92 FA_y_92 FA_p_92 KB_x_92 KB_y_92
          clear bb
          have KB_p_93 : Hid (Blk (qp.alloc (.cells #[.int .u64 0, .int .i64 0, .slice none 0 0] 25)) (qp.heap.size) 25 #[.int .u64 0, .int .i64 0, .slice none 0 0]) := Blk.new _ _ _
          go_simp
          generalize (qp.alloc (.cells #[.int .u64 0, .int .i64 0, .slice none 0 0] 25)) = v10 at BEL93 FA_x_93 FA_y_93 FA_p_93 KB_x_93 KB_y_93 KB_p_93 ⊢
          generalize qp.heap.size = gp at GE_p KB_p_93 NE_x_p NE_y_p ⊢
          refine hK.out _ _ (by exact ⟨KB_x_93.out, KB_y_93.out⟩) (fun hHeld => ?_)
          clear hK K hHeld
          refine wpAnyH_ready (rs := [5, 7]) (by kernel_rfl) (by simp) ?_
          refine AllReadyH.cons rfl (fun K hK => ?_) ?_
          · go_simp
            refine (adds_any _ _ _ a0 (N : Int) n m (addsB a0 N n (fun _ => false) M p) L FA_y_93.out (LA.out.keep (keep_of_below BEL93.out)) uS (by omega) m30 HZ.out).mono ?_
            rintro e qq ⟨xq, rfl, fq, bb⟩
            have BEL94 := h_bel BEL93 bb
            have FA_x_94 := h_fil FA_x_93 bb
            have FA_y_94 := h_fil FA_y_93 bb
            have FA_p_94 := h_fil FA_p_93 bb
            have KB_x_94 := h_blk KB_x_93 bb
            have KB_y_94 := h_blk KB_y_93 bb
            have KB_p_94 := h_blk KB_p_93 bb
            clear BEL93 FA_x_93 FA_y_93 FA_p_93 KB_x_93 KB_y_93 KB_p_93
            clear bb
            have FA_q_94 : Hid (FilterAt qq (xq) a0 (N : Int) n (addsB a0 N n (addsB a0 N n (fun _ => false) M p) L m)) := fq
            obtain ⟨vq, rfl, Aq, cq, bbq, ooq, rfl, hx1, hx2, hx3⟩ := fq
            clear hx1 hx2 hx3
            go_wp2_with fail
            refine hK.out _ _ (by exact ⟨KB_x_94.out, KB_y_94.out⟩) (fun hHeld => ?_)
            clear hK K hHeld
            refine wpAnyH_ready (rs := [7]) (by kernel_rfl) (by simp) ?_
            refine AllReadyH.cons rfl (fun K hK => ?_) ?_
            · have GE_q : Hid (w.heap.size ≤ qq.heap.size) := BEL94.out.size
              have NE_x_q : Hid (gx ≠ qq.heap.size) := Nat.ne_of_lt KB_x_94.out.lt
              have NE_y_q : Hid (gy ≠ qq.heap.size) := Nat.ne_of_lt KB_y_94.out.lt
              have NE_p_q : Hid (gp ≠ qq.heap.size) := Nat.ne_of_lt KB_p_94.out.lt
              have bb := bel_alloc qq (.cells #[.int .u64 0, .int .i64 0, .slice none 0 0] 25)
              have BEL95 := h_bel BEL94 bb
              have FA_x_95 := h_fil FA_x_94 bb
              have FA_y_95 := h_fil FA_y_94 bb
              have FA_p_95 := h_fil FA_p_94 bb
              have FA_q_95 := h_fil FA_q_94 bb
              have KB_x_95 := h_blk KB_x_94 bb
              have KB_y_95 := h_blk KB_y_94 bb
              have KB_p_95 := h_blk KB_p_94 bb
              clear BEL94 FA_x_94 FA_y_94 FA_p_94 FA_q_94 KB_x_94 KB_y_94 KB_p_94
              clear bb
              have KB_q_95 : Hid (Blk (qq.alloc (.cells #[.int .u64 0, .int .i64 0, .slice none 0 0] 25)) (qq.heap.size) 25 #[.int .u64 0, .int .i64 0, .slice none 0 0]) := Blk.new _ _ _
              go_simp
              generalize (qq.alloc (.cells #[.int .u64 0, .int .i64 0, .slice none 0 0] 25)) = v11 at BEL95 FA_x_95 FA_y_95 FA_p_95 FA_q_95 KB_x_95 KB_y_95 KB_p_95 KB_q_95 ⊢
              generalize qq.heap.size = gq at GE_q KB_q_95 NE_x_q NE_y_q NE_p_q ⊢
              refine hK.out _ _ (by exact ⟨KB_x_95.out, KB_y_95.out⟩) (fun hHeld => ?_)
              clear hK K hHeld
              refine wpAnyH_ready (rs := [8]) (by kernel_rfl) (by simp) ?_
              refine AllReadyH.cons rfl (fun K hK => ?_) ?_
              rotate_left
              · exact AllReadyH.nil
              have cx0 : v11.cell? ⟨gp, 0, none⟩ = some (.int .u64 0) := KB_p_95.out.cell 0
              have cf0 := KB_p_95.out.frozen 0
              have cx1 : v11.cell? ⟨gp, 1, none⟩ = some (.int .i64 0) := KB_p_95.out.cell 1
              have cf1 := KB_p_95.out.frozen 1
              have cx2 : v11.cell? ⟨gp, 2, none⟩ = some (.slice none 0 0) := KB_p_95.out.cell 2
              have cf2 := KB_p_95.out.frozen 2
              go_simp
              clear cx0 cf0 cx1 cf1 cx2 cf2
              obtain ⟨v12, hvv12⟩ : ∃ q, q = (((v11.setCell ⟨gp, 0, none⟩ (.int .u64 a0)).setCell ⟨gp, 1, none⟩ (.int .i64 (N : Int))).setCell ⟨gp, 2, none⟩ (.slice Ap n cp)) := ⟨_, rfl⟩
              rw [← hvv12]
              have pe : v12 = put3 v11 gp (.int .u64 a0) (.int .i64 (N : Int)) (.slice Ap n cp) := hvv12
              have BEL96 := p_bel pe BEL95 GE_p
              have FA_x_96 := p_fil pe KB_p_95 FA_x_95
              have FA_y_96 := p_fil pe KB_p_95 FA_y_95
              have FA_p_96 := p_fil pe KB_p_95 FA_p_95
              have FA_q_96 := p_fil pe KB_p_95 FA_q_95
              have KB_x_96 := p_oth pe KB_x_95 (by first | exact NE_x_p | exact n_sym NE_p_x)
              have KB_y_96 := p_oth pe KB_y_95 (by first | exact NE_y_p | exact n_sym NE_p_y)
              have KB_p_96 := p_blk pe KB_p_95
              have KB_q_96 := p_oth pe KB_q_95 (by first | exact NE_q_p | exact n_sym NE_p_q)
              clear pe hvv12 BEL95 FA_x_95 FA_y_95 FA_p_95 FA_q_95 KB_x_95 KB_y_95 KB_p_95 KB_q_95
              refine hK.out _ _ (by exact ⟨KB_x_96.out, KB_y_96.out⟩) (fun hHeld => ?_)
              clear hK K hHeld
              refine wpAnyH_ready (rs := [9]) (by kernel_rfl) (by simp) ?_
              refine AllReadyH.cons rfl (fun K hK => ?_) ?_
              rotate_left
              · exact AllReadyH.nil
              have cx0 : v12.cell? ⟨gq, 0, none⟩ = some (.int .u64 0) := KB_q_96.out.cell 0
              have cf0 := KB_q_96.out.frozen 0
              have cx1 : v12.cell? ⟨gq, 1, none⟩ = some (.int .i64 0) := KB_q_96.out.cell 1
              have cf1 := KB_q_96.out.frozen 1
              have cx2 : v12.cell? ⟨gq, 2, none⟩ = some (.slice none 0 0) := KB_q_96.out.cell 2
              have cf2 := KB_q_96.out.frozen 2
              go_simp
              clear cx0 cf0 cx1 cf1 cx2 cf2
              obtain ⟨v13, hvv13⟩ : ∃ q, q = (((v12.setCell ⟨gq, 0, none⟩ (.int .u64 a0)).setCell ⟨gq, 1, none⟩ (.int .i64 (N : Int))).setCell ⟨gq, 2, none⟩ (.slice Aq n cq)) := ⟨_, rfl⟩
              rw [← hvv13]
              have pe : v13 = put3 v12 gq (.int .u64 a0) (.int .i64 (N : Int)) (.slice Aq n cq) := hvv13
              have BEL97 := p_bel pe BEL96 GE_q
              have FA_x_97 := p_fil pe KB_q_96 FA_x_96
              have FA_y_97 := p_fil pe KB_q_96 FA_y_96
              have FA_p_97 := p_fil pe KB_q_96 FA_p_96
              have FA_q_97 := p_fil pe KB_q_96 FA_q_96
              have KB_x_97 := p_oth pe KB_x_96 (by first | exact NE_x_q | exact n_sym NE_q_x)
              have KB_y_97 := p_oth pe KB_y_96 (by first | exact NE_y_q | exact n_sym NE_q_y)
              have KB_p_97 := p_oth pe KB_p_96 (by first | exact NE_p_q | exact n_sym NE_q_p)
              have KB_q_97 := p_blk pe KB_q_96
              clear pe hvv13 BEL96 FA_x_96 FA_y_96 FA_p_96 FA_q_96 KB_x_96 KB_y_96 KB_p_96 KB_q_96
              refine hK.out _ _ (by exact ⟨KB_x_97.out, KB_y_97.out⟩) (fun hHeld => ?_)
              clear hK K hHeld
              refine wpAnyH_done (by kernel_rfl) ?_ _
              refine NoPanic.normal ?_
              go_wp2_with fail
              go_meet
              case rel => exact ⟨gp, gq, Ap, cp, Aq, cq, ⟨rfl, rfl⟩, ⟨BEL97.out, KB_p_97.out, KB_q_97.out, FA_p_97.out, FA_q_97.out⟩, ⟨BEL97.out, KB_x_97.out, KB_y_97.out, FA_x_97.out, FA_y_97.out⟩⟩
            exact AllReadyH.nil
          refine AllReadyH.cons rfl (fun K hK => ?_) ?_
          · have GE_q : Hid (w.heap.size ≤ v10.heap.size) := BEL93.out.size
            have NE_x_q : Hid (gx ≠ v10.heap.size) := Nat.ne_of_lt KB_x_93.out.lt
            have NE_y_q : Hid (gy ≠ v10.heap.size) := Nat.ne_of_lt KB_y_93.out.lt
            have NE_p_q : Hid (gp ≠ v10.heap.size) := Nat.ne_of_lt KB_p_93.out.lt
            have bb := bel_alloc v10 (.cells #[.int .u64 0, .int .i64 0, .slice none 0 0] 25)
            have BEL94 := h_bel BEL93 bb
            have FA_x_94 := h_fil FA_x_93 bb
            have FA_y_94 := h_fil FA_y_93 bb
            have FA_p_94 := h_fil FA_p_93 bb
            have KB_x_94 := h_blk KB_x_93 bb
            have KB_y_94 := h_blk KB_y_93 bb
            have KB_p_94 := h_blk KB_p_93 bb
            clear BEL93 FA_x_93 FA_y_93 FA_p_93 KB_x_93 KB_y_93 KB_p_93
            clear bb
            have KB_q_94 : Hid (Blk (v10.alloc (.cells #[.int .u64 0, .int .i64 0, .slice none 0 0] 25)) (v10.heap.size) 25 #[.int .u64 0, .int .i64 0, .slice none 0 0]) := Blk.new _ _ _
            go_simp
            generalize (v10.alloc (.cells #[.int .u64 0, .int .i64 0, .slice none 0 0] 25)) = v14 at BEL94 FA_x_94 FA_y_94 FA_p_94 KB_x_94 KB_y_94 KB_p_94 KB_q_94 ⊢
            generalize v10.heap.size = gq at GE_q KB_q_94 NE_x_q NE_y_q NE_p_q ⊢
            refine hK.out _ _ (by exact ⟨KB_x_94.out, KB_y_94.out⟩) (fun hHeld => ?_)
            clear hK K hHeld
            refine wpAnyH_ready (rs := [5]) (by kernel_rfl) (by simp) ?_
            refine AllReadyH.cons rfl (fun K hK => ?_) ?_
            · go_simp
              refine (adds_any _ _ _ a0 (N : Int) n m (addsB a0 N n (fun _ => false) M p) L FA_y_94.out (LA.out.keep (keep_of_below BEL94.out)) uS (by omega) m30 HZ.out).mono ?_
              rintro e qq ⟨xq, rfl, fq, bb⟩
              have BEL95 := h_bel BEL94 bb
              have FA_x_95 := h_fil FA_x_94 bb
              have FA_y_95 := h_fil FA_y_94 bb
              have FA_p_95 := h_fil FA_p_94 bb
              have KB_x_95 := h_blk KB_x_94 bb
              have KB_y_95 := h_blk KB_y_94 bb
              have KB_p_95 := h_blk KB_p_94 bb
              have KB_q_95 := h_blk KB_q_94 bb
              clear BEL94 FA_x_94 FA_y_94 FA_p_94 KB_x_94 KB_y_94 KB_p_94 KB_q_94
              clear bb
              have FA_q_95 : Hid (FilterAt qq (xq) a0 (N : Int) n (addsB a0 N n (addsB a0 N n (fun _ => false) M p) L m)) := fq
              obtain ⟨vq, rfl, Aq, cq, bbq, ooq, rfl, hx1, hx2, hx3⟩ := fq
              clear hx1 hx2 hx3
              go_wp2_with fail
              refine hK.out _ _ (by exact ⟨KB_x_95.out, KB_y_95.out⟩) (fun hHeld => ?_)
              clear hK K hHeld
              refine wpAnyH_ready (rs := [8]) (by kernel_rfl) (by simp) ?_
              refine AllReadyH.cons rfl (fun K hK => ?_) ?_
              rotate_left
              · exact AllReadyH.nil
              have cx0 : qq.cell? ⟨gp, 0, none⟩ = some (.int .u64 0) := KB_p_95.out.cell 0
              have cf0 := KB_p_95.out.frozen 0
              have cx1 : qq.cell? ⟨gp, 1, none⟩ = some (.int .i64 0) := KB_p_95.out.cell 1
              have cf1 := KB_p_95.out.frozen 1
              have cx2 : qq.cell? ⟨gp, 2, none⟩ = some (.slice none 0 0) := KB_p_95.out.cell 2
              have cf2 := KB_p_95.out.frozen 2
              go_simp
              clear cx0 cf0 cx1 cf1 cx2 cf2
              obtain ⟨v15, hvv15⟩ : ∃ q, q = (((qq.setCell ⟨gp, 0, none⟩ (.int .u64 a0)).setCell ⟨gp, 1, none⟩ (.int .i64 (N : Int))).setCell ⟨gp, 2, none⟩ (.slice Ap n cp)) := ⟨_, rfl⟩
              rw [← hvv15]
              have pe : v15 = put3 qq gp (.int .u64 a0) (.int .i64 (N : Int)) (.slice Ap n cp) := hvv15
              have BEL96 := p_bel pe BEL95 GE_p
              have FA_x_96 := p_fil pe KB_p_95 FA_x_95
              have FA_y_96 := p_fil pe KB_p_95 FA_y_95
              have FA_p_96 := p_fil pe KB_p_95 FA_p_95
              have FA_q_96 := p_fil pe KB_p_95 FA_q_95
              have KB_x_96 := p_oth pe KB_x_95 (by first | exact NE_x_p | exact n_sym NE_p_x)
              have KB_y_96 := p_oth pe KB_y_95 (by first | exact NE_y_p | exact n_sym NE_p_y)
              have KB_p_96 := p_blk pe KB_p_95
              have KB_q_96 := p_oth pe KB_q_95 (by first | exact NE_q_p | exact n_sym NE_p_q)
              clear pe hvv15 BEL95 FA_x_95 FA_y_95 FA_p_95 FA_q_95 KB_x_95 KB_y_95 KB_p_95 KB_q_95
              refine hK.out _ _ (by exact ⟨KB_x_96.out, KB_y_96.out⟩) (fun hHeld => ?_)
              clear hK K hHeld
              refine wpAnyH_ready (rs := [9]) (by kernel_rfl) (by simp) ?_
              refine AllReadyH.cons rfl (fun K hK => ?_) ?_
              rotate_left
              · exact AllReadyH.nil
              have cx0 : v15.cell? ⟨gq, 0, none⟩ = some (.int .u64 0) := KB_q_96.out.cell 0
              have cf0 := KB_q_96.out.frozen 0
              have cx1 : v15.cell? ⟨gq, 1, none⟩ = some (.int .i64 0) := KB_q_96.out.cell 1
              have cf1 := KB_q_96.out.frozen 1
              have cx2 : v15.cell? ⟨gq, 2, none⟩ = some (.slice none 0 0) := KB_q_96.out.cell 2
              have cf2 := KB_q_96.out.frozen 2
              go_simp
              clear cx0 cf0 cx1 cf1 cx2 cf2
              obtain ⟨v16, hvv16⟩ : ∃ q, q = (((v15.setCell ⟨gq, 0, none⟩ (.int .u64 a0)).setCell ⟨gq, 1, none⟩ (.int .i64 (N : Int))).setCell ⟨gq, 2, none⟩ (.slice Aq n cq)) := ⟨_, rfl⟩
              rw [← hvv16]
              have pe : v16 = put3 v15 gq (.int .u64 a0) (.int .i64 (N : Int)) (.slice Aq n cq) := hvv16
              have BEL97 := p_bel pe BEL96 GE_q
              have FA_x_97 := p_fil pe KB_q_96 FA_x_96
              have FA_y_97 := p_fil pe KB_q_96 FA_y_96
              have FA_p_97 := p_fil pe KB_q_96 FA_p_96
              have FA_q_97 := p_fil pe KB_q_96 FA_q_96
              have KB_x_97 := p_oth pe KB_x_96 (by first | exact NE_x_q | exact n_sym NE_q_x)
              have KB_y_97 := p_oth pe KB_y_96 (by first | exact NE_y_q | exact n_sym NE_q_y)
              have KB_p_97 := p_oth pe KB_p_96 (by first | exact NE_p_q | exact n_sym NE_q_p)
              have KB_q_97 := p_blk pe KB_q_96
              clear pe hvv16 BEL96 FA_x_96 FA_y_96 FA_p_96 FA_q_96 KB_x_96 KB_y_96 KB_p_96 KB_q_96
              refine hK.out _ _ (by exact ⟨KB_x_97.out, KB_y_97.out⟩) (fun hHeld => ?_)
              clear hK K hHeld
              refine wpAnyH_done (by kernel_rfl) ?_ _
              refine NoPanic.normal ?_
              go_wp2_with fail
              go_meet
              case rel => exact ⟨gp, gq, Ap, cp, Aq, cq, ⟨rfl, rfl⟩, ⟨BEL97.out, KB_p_97.out, KB_q_97.out, FA_p_97.out, FA_q_97.out⟩, ⟨BEL97.out, KB_x_97.out, KB_y_97.out, FA_x_97.out, FA_y_97.out⟩⟩
            exact AllReadyH.nil
          exact AllReadyH.nil
        refine AllReadyH.cons rfl (fun K hK => ?_) ?_
        · have GE_q : Hid (w.heap.size ≤ qp.heap.size) := BEL92.out.size
          have NE_x_q : Hid (gx ≠ qp.heap.size) := Nat.ne_of_lt KB_x_92.out.lt
          have NE_y_q : Hid (gy ≠ qp.heap.size) := Nat.ne_of_lt KB_y_92.out.lt
          have bb := bel_alloc qp (.cells #[.int .u64 0, .int .i64 0, .slice none 0 0] 25)
          have BEL93 := h_bel BEL92 bb
          have FA_x_93 := h_fil FA_x_92 bb
          have FA_y_93 := h_fil FA_y_92 bb
          have FA_p_93 := h_fil FA_p_92 bb
          have KB_x_93 := h_blk KB_x_92 bb
          have KB_y_93 := h_blk KB_y_92 bb
          clear BEL92 FA_x_92 FA_y_92 FA_p_92 KB_x_92 KB_y_92
          clear bb
          have KB_q_93 : Hid (Blk (qp.alloc (.cells #[.int .u64 0, .int .i64 0, .slice none 0 0] 25)) (qp.heap.size) 25 #[.int .u64 0, .int .i64 0, .slice none 0 0]) := Blk.new _ _ _
          go_simp
          generalize (qp.alloc (.cells #[.int .u64 0, .int .i64 0, .slice none 0 0] 25)) = v17 at BEL93 FA_x_93 FA_y_93 FA_p_93 KB_x_93 KB_y_93 KB_q_93 ⊢
          generalize qp.heap.size = gq at GE_q KB_q_93 NE_x_q NE_y_q ⊢
          refine hK.out _ _ (by exact ⟨KB_x_93.out, KB_y_93.out⟩) (fun hHeld => ?_)
          clear hK K hHeld
          refine wpAnyH_ready (rs := [5, 6]) (by kernel_rfl) (by simp) ?_
          refine AllReadyH.cons rfl (fun K hK => ?_) ?_
          · go_simp
            refine (adds_any _ _ _ a0 (N : Int) n m (addsB a0 N n (fun _ => false) M p) L FA_y_93.out (LA.out.keep (keep_of_below BEL93.out)) uS (by omega) m30 HZ.out).mono ?_
            rintro e qq ⟨xq, rfl, fq, bb⟩
            have BEL94 := h_bel BEL93 bb
            have FA_x_94 := h_fil FA_x_93 bb
            have FA_y_94 := h_fil FA_y_93 bb
            have FA_p_94 := h_fil FA_p_93 bb
            have KB_x_94 := h_blk KB_x_93 bb
            have KB_y_94 := h_blk KB_y_93 bb
            have KB_q_94 := h_blk KB_q_93 bb
            clear BEL93 FA_x_93 FA_y_93 FA_p_93 KB_x_93 KB_y_93 KB_q_93
            clear bb
            have FA_q_94 : Hid (FilterAt qq (xq) a0 (N : Int) n (addsB a0 N n (addsB a0 N n (fun _ => false) M p) L m)) := fq
            obtain ⟨vq, rfl, Aq, cq, bbq, ooq, rfl, hx1, hx2, hx3⟩ := fq
            clear hx1 hx2 hx3
            go_wp2_with fail
            refine hK.out _ _ (by exact ⟨KB_x_94.out, KB_y_94.out⟩) (fun hHeld => ?_)
            clear hK K hHeld
            refine wpAnyH_ready (rs := [6]) (by kernel_rfl) (by simp) ?_
            refine AllReadyH.cons rfl (fun K hK => ?_) ?_
            · have GE_p : Hid (w.heap.size ≤ qq.heap.size) := BEL94.out.size
              have NE_x_p : Hid (gx ≠ qq.heap.size) := Nat.ne_of_lt KB_x_94.out.lt
              have NE_y_p : Hid (gy ≠ qq.heap.size) := Nat.ne_of_lt KB_y_94.out.lt
              have NE_q_p : Hid (gq ≠ qq.heap.size) := Nat.ne_of_lt KB_q_94.out.lt
              have bb := bel_alloc qq (.cells #[.int .u64 0, .int .i64 0, .slice none 0 0] 25)
              have BEL95 := h_bel BEL94 bb
              have FA_x_95 := h_fil FA_x_94 bb
              have FA_y_95 := h_fil FA_y_94 bb
              have FA_p_95 := h_fil FA_p_94 bb
              have FA_q_95 := h_fil FA_q_94 bb
              have KB_x_95 := h_blk KB_x_94 bb
              have KB_y_95 := h_blk KB_y_94 bb
              have KB_q_95 := h_blk KB_q_94 bb
              clear BEL94 FA_x_94 FA_y_94 FA_p_94 FA_q_94 KB_x_94 KB_y_94 KB_q_94
              clear bb
              have KB_p_95 : Hid (Blk (qq.alloc (.cells #[.int .u64 0, .int .i64 0, .slice none 0 0] 25)) (qq.heap.size) 25 #[.int .u64 0, .int .i64 0, .slice none 0 0]) := Blk.new _ _ _
              go_simp
              generalize (qq.alloc (.cells #[.int .u64 0, .int .i64 0, .slice none 0 0] 25)) = v18 at BEL95 FA_x_95 FA_y_95 FA_p_95 FA_q_95 KB_x_95 KB_y_95 KB_q_95 KB_p_95 ⊢
              generalize qq.heap.size = gp at GE_p KB_p_95 NE_x_p NE_y_p NE_q_p ⊢
              refine hK.out _ _ (by exact ⟨KB_x_95.out, KB_y_95.out⟩) (fun hHeld => ?_)
              clear hK K hHeld
              refine wpAnyH_ready (rs := [8]) (by kernel_rfl) (by simp) ?_
              refine AllReadyH.cons rfl (fun K hK => ?_) ?_
              rotate_left
              · exact AllReadyH.nil
              have cx0 : v18.cell? ⟨gp, 0, none⟩ = some (.int .u64 0) := KB_p_95.out.cell 0
              have cf0 := KB_p_95.out.frozen 0
              have cx1 : v18.cell? ⟨gp, 1, none⟩ = some (.int .i64 0) := KB_p_95.out.cell 1
              have cf1 := KB_p_95.out.frozen 1
              have cx2 : v18.cell? ⟨gp, 2, none⟩ = some (.slice none 0 0) := KB_p_95.out.cell 2
              have cf2 := KB_p_95.out.frozen 2
              go_simp
              clear cx0 cf0 cx1 cf1 cx2 cf2
              obtain ⟨v19, hvv19⟩ : ∃ q, q = (((v18.setCell ⟨gp, 0, none⟩ (.int .u64 a0)).setCell ⟨gp, 1, none⟩ (.int .i64 (N : Int))).setCell ⟨gp, 2, none⟩ (.slice Ap n cp)) := ⟨_, rfl⟩
              rw [← hvv19]
              have pe : v19 = put3 v18 gp (.int .u64 a0) (.int .i64 (N : Int)) (.slice Ap n cp) := hvv19
              have BEL96 := p_bel pe BEL95 GE_p
              have FA_x_96 := p_fil pe KB_p_95 FA_x_95
              have FA_y_96 := p_fil pe KB_p_95 FA_y_95
              have FA_p_96 := p_fil pe KB_p_95 FA_p_95
              have FA_q_96 := p_fil pe KB_p_95 FA_q_95
              have KB_x_96 := p_oth pe KB_x_95 (by first | exact NE_x_p | exact n_sym NE_p_x)
              have KB_y_96 := p_oth pe KB_y_95 (by first | exact NE_y_p | exact n_sym NE_p_y)
              have KB_q_96 := p_oth pe KB_q_95 (by first | exact NE_q_p | exact n_sym NE_p_q)
              have KB_p_96 := p_blk pe KB_p_95
              clear pe hvv19 BEL95 FA_x_95 FA_y_95 FA_p_95 FA_q_95 KB_x_95 KB_y_95 KB_q_95 KB_p_95
              refine hK.out _ _ (by exact ⟨KB_x_96.out, KB_y_96.out⟩) (fun hHeld => ?_)
              clear hK K hHeld
              refine wpAnyH_ready (rs := [9]) (by kernel_rfl) (by simp) ?_
              refine AllReadyH.cons rfl (fun K hK => ?_) ?_
              rotate_left
              · exact AllReadyH.nil
              have cx0 : v19.cell? ⟨gq, 0, none⟩ = some (.int .u64 0) := KB_q_96.out.cell 0
              have cf0 := KB_q_96.out.frozen 0
              have cx1 : v19.cell? ⟨gq, 1, none⟩ = some (.int .i64 0) := KB_q_96.out.cell 1
              have cf1 := KB_q_96.out.frozen 1
              have cx2 : v19.cell? ⟨gq, 2, none⟩ = some (.slice none 0 0) := KB_q_96.out.cell 2
              have cf2 := KB_q_96.out.frozen 2
              go_simp
              clear cx0 cf0 cx1 cf1 cx2 cf2
              obtain ⟨v20, hvv20⟩ : ∃ q, q = (((v19.setCell ⟨gq, 0, none⟩ (.int .u64 a0)).setCell ⟨gq, 1, none⟩ (.int .i64 (N : Int))).setCell ⟨gq, 2, none⟩ (.slice Aq n cq)) := ⟨_, rfl⟩
              rw [← hvv20]
              have pe : v20 = put3 v19 gq (.int .u64 a0) (.int .i64 (N : Int)) (.slice Aq n cq) := hvv20
              have BEL97 := p_bel pe BEL96 GE_q
              have FA_x_97 := p_fil pe KB_q_96 FA_x_96
              have FA_y_97 := p_fil pe KB_q_96 FA_y_96
              have FA_p_97 := p_fil pe KB_q_96 FA_p_96
              have FA_q_97 := p_fil pe KB_q_96 FA_q_96
              have KB_x_97 := p_oth pe KB_x_96 (by first | exact NE_x_q | exact n_sym NE_q_x)
              have KB_y_97 := p_oth pe KB_y_96 (by first | exact NE_y_q | exact n_sym NE_q_y)
              have KB_q_97 := p_blk pe KB_q_96
              have KB_p_97 := p_oth pe KB_p_96 (by first | exact NE_p_q | exact n_sym NE_q_p)
              clear pe hvv20 BEL96 FA_x_96 FA_y_96 FA_p_96 FA_q_96 KB_x_96 KB_y_96 KB_q_96 KB_p_96
              refine hK.out _ _ (by exact ⟨KB_x_97.out, KB_y_97.out⟩) (fun hHeld => ?_)
              clear hK K hHeld
              refine wpAnyH_done (by kernel_rfl) ?_ _
              refine NoPanic.normal ?_
              go_wp2_with fail
              go_meet
              case rel => exact ⟨gp, gq, Ap, cp, Aq, cq, ⟨rfl, rfl⟩, ⟨BEL97.out, KB_p_97.out, KB_q_97.out, FA_p_97.out, FA_q_97.out⟩, ⟨BEL97.out, KB_x_97.out, KB_y_97.out, FA_x_97.out, FA_y_97.out⟩⟩
            exact AllReadyH.nil
          refine AllReadyH.cons rfl (fun K hK => ?_) ?_
          · have GE_p : Hid (w.heap.size ≤ v17.heap.size) := BEL93.out.size
            have NE_x_p : Hid (gx ≠ v17.heap.size) := Nat.ne_of_lt KB_x_93.out.lt
            have NE_y_p : Hid (gy ≠ v17.heap.size) := Nat.ne_of_lt KB_y_93.out.lt
            have NE_q_p : Hid (gq ≠ v17.heap.size) := Nat.ne_of_lt KB_q_93.out.lt
            have bb := bel_alloc v17 (.cells #[.int .u64 0, .int .i64 0, .slice none 0 0] 25)
            have BEL94 := h_bel BEL93 bb
            have FA_x_94 := h_fil FA_x_93 bb
            have FA_y_94 := h_fil FA_y_93 bb
            have FA_p_94 := h_fil FA_p_93 bb
            have KB_x_94 := h_blk KB_x_93 bb
            have KB_y_94 := h_blk KB_y_93 bb
            have KB_q_94 := h_blk KB_q_93 bb
            clear BEL93 FA_x_93 FA_y_93 FA_p_93 KB_x_93 KB_y_93 KB_q_93
            clear bb
            have KB_p_94 : Hid (Blk (v17.alloc (.cells #[.int .u64 0, .int .i64 0, .slice none 0 0] 25)) (v17.heap.size) 25 #[.int .u64 0, .int .i64 0, .slice none 0 0]) := Blk.new _ _ _
            go_simp
            generalize (v17.alloc (.cells #[.int .u64 0, .int .i64 0, .slice none 0 0] 25)) = v21 at BEL94 FA_x_94 FA_y_94 FA_p_94 KB_x_94 KB_y_94 KB_q_94 KB_p_94 ⊢
            generalize v17.heap.size = gp at GE_p KB_p_94 NE_x_p NE_y_p NE_q_p ⊢
            refine hK.out _ _ (by exact ⟨KB_x_94.out, KB_y_94.out⟩) (fun hHeld => ?_)
            clear hK K hHeld
            refine wpAnyH_ready (rs := [5]) (by kernel_rfl) (by simp) ?_
            refine AllReadyH.cons rfl (fun K hK => ?_) ?_
            · go_simp
              refine (adds_any _ _ _ a0 (N : Int) n m (addsB a0 N n (fun _ => false) M p) L FA_y_94.out (LA.out.keep (keep_of_below BEL94.out)) uS (by omega) m30 HZ.out).mono ?_
              rintro e qq ⟨xq, rfl, fq, bb⟩
              have BEL95 := h_bel BEL94 bb
              have FA_x_95 := h_fil FA_x_94 bb
              have FA_y_95 := h_fil FA_y_94 bb
              have FA_p_95 := h_fil FA_p_94 bb
              have KB_x_95 := h_blk KB_x_94 bb
              have KB_y_95 := h_blk KB_y_94 bb
              have KB_q_95 := h_blk KB_q_94 bb
              have KB_p_95 := h_blk KB_p_94 bb
              clear BEL94 FA_x_94 FA_y_94 FA_p_94 KB_x_94 KB_y_94 KB_q_94 KB_p_94
              clear bb
              have FA_q_95 : Hid (FilterAt qq (xq) a0 (N : Int) n (addsB a0 N n (addsB a0 N n (fun _ => false) M p) L m)) := fq
              obtain ⟨vq, rfl, Aq, cq, bbq, ooq, rfl, hx1, hx2, hx3⟩ := fq
              clear hx1 hx2 hx3
              go_wp2_with fail
              refine hK.out _ _ (by exact ⟨KB_x_95.out, KB_y_95.out⟩) (fun hHeld => ?_)
              clear hK K hHeld
              refine wpAnyH_ready (rs := [8]) (by kernel_rfl) (by simp) ?_
              refine AllReadyH.cons rfl (fun K hK => ?_) ?_
              rotate_left
              · exact AllReadyH.nil
              have cx0 : qq.cell? ⟨gp, 0, none⟩ = some (.int .u64 0) := KB_p_95.out.cell 0
              have cf0 := KB_p_95.out.frozen 0
              have cx1 : qq.cell? ⟨gp, 1, none⟩ = some (.int .i64 0) := KB_p_95.out.cell 1
              have cf1 := KB_p_95.out.frozen 1
              have cx2 : qq.cell? ⟨gp, 2, none⟩ = some (.slice none 0 0) := KB_p_95.out.cell 2
              have cf2 := KB_p_95.out.frozen 2
              go_simp
              clear cx0 cf0 cx1 cf1 cx2 cf2
              obtain ⟨v22, hvv22⟩ : ∃ q, q = (((qq.setCell ⟨gp, 0, none⟩ (.int .u64 a0)).setCell ⟨gp, 1, none⟩ (.int .i64 (N : Int))).setCell ⟨gp, 2, none⟩ (.slice Ap n cp)) := ⟨_, rfl⟩
              rw [← hvv22]
              have pe : v22 = put3 qq gp (.int .u64 a0) (.int .i64 (N : Int)) (.slice Ap n cp) := hvv22
              have BEL96 := p_bel pe BEL95 GE_p
              have FA_x_96 := p_fil pe KB_p_95 FA_x_95
              have FA_y_96 := p_fil pe KB_p_95 FA_y_95
              have FA_p_96 := p_fil pe KB_p_95 FA_p_95
              have FA_q_96 := p_fil pe KB_p_95 FA_q_95
              have KB_x_96 := p_oth pe KB_x_95 (by first | exact NE_x_p | exact n_sym NE_p_x)
              have KB_y_96 := p_oth pe KB_y_95 (by first | exact NE_y_p | exact n_sym NE_p_y)
              have KB_q_96 := p_oth pe KB_q_95 (by first | exact NE_q_p | exact n_sym NE_p_q)
              have KB_p_96 := p_blk pe KB_p_95
              clear pe hvv22 BEL95 FA_x_95 FA_y_95 FA_p_95 FA_q_95 KB_x_95 KB_y_95 KB_q_95 KB_p_95
              refine hK.out _ _ (by exact ⟨KB_x_96.out, KB_y_96.out⟩) (fun hHeld => ?_)
              clear hK K hHeld
              refine wpAnyH_ready (rs := [9]) (by kernel_rfl) (by simp) ?_
              refine AllReadyH.cons rfl (fun K hK => ?_) ?_
              rotate_left
              · exact AllReadyH.nil
              have cx0 : v22.cell? ⟨gq, 0, none⟩ = some (.int .u64 0) := KB_q_96.out.cell 0
              have cf0 := KB_q_96.out.frozen 0
              have cx1 : v22.cell? ⟨gq, 1, none⟩ = some (.int .i64 0) := KB_q_96.out.cell 1
              have cf1 := KB_q_96.out.frozen 1
              have cx2 : v22.cell? ⟨gq, 2, none⟩ = some (.slice none 0 0) := KB_q_96.out.cell 2
              have cf2 := KB_q_96.out.frozen 2
              go_simp
              clear cx0 cf0 cx1 cf1 cx2 cf2
              obtain ⟨v23, hvv23⟩ : ∃ q, q = (((v22.setCell ⟨gq, 0, none⟩ (.int .u64 a0)).setCell ⟨gq, 1, none⟩ (.int .i64 (N : Int))).setCell ⟨gq, 2, none⟩ (.slice Aq n cq)) := ⟨_, rfl⟩
              rw [← hvv23]
              have pe : v23 = put3 v22 gq (.int .u64 a0) (.int .i64 (N : Int)) (.slice Aq n cq) := hvv23
              have BEL97 := p_bel pe BEL96 GE_q
              have FA_x_97 := p_fil pe KB_q_96 FA_x_96
              have FA_y_97 := p_fil pe KB_q_96 FA_y_96
              have FA_p_97 := p_fil pe KB_q_96 FA_p_96
              have FA_q_97 := p_fil pe KB_q_96 FA_q_96
              have KB_x_97 := p_oth pe KB_x_96 (by first | exact NE_x_q | exact n_sym NE_q_x)
              have KB_y_97 := p_oth pe KB_y_96 (by first | exact NE_y_q | exact n_sym NE_q_y)
              have KB_q_97 := p_blk pe KB_q_96
              have KB_p_97 := p_oth pe KB_p_96 (by first | exact NE_p_q | exact n_sym NE_q_p)
              clear pe hvv23 BEL96 FA_x_96 FA_y_96 FA_p_96 FA_q_96 KB_x_96 KB_y_96 KB_q_96 KB_p_96
              refine hK.out _ _ (by exact ⟨KB_x_97.out, KB_y_97.out⟩) (fun hHeld => ?_)
              clear hK K hHeld
              refine wpAnyH_done (by kernel_rfl) ?_ _
              refine NoPanic.normal ?_
              go_wp2_with fail
              go_meet
              case rel => exact ⟨gp, gq, Ap, cp, Aq, cq, ⟨rfl, rfl⟩, ⟨BEL97.out, KB_p_97.out, KB_q_97.out, FA_p_97.out, FA_q_97.out⟩, ⟨BEL97.out, KB_x_97.out, KB_y_97.out, FA_x_97.out, FA_y_97.out⟩⟩
            exact AllReadyH.nil
          exact AllReadyH.nil
        exact AllReadyH.nil
      refine AllReadyH.cons rfl (fun K hK => ?_) ?_
      · have GE_p : Hid (w.heap.size ≤ v1.heap.size) := BEL91.out.size
        have NE_x_p : Hid (gx ≠ v1.heap.size) := Nat.ne_of_lt KB_x_91.out.lt
        have NE_y_p : Hid (gy ≠ v1.heap.size) := Nat.ne_of_lt KB_y_91.out.lt
        have bb := bel_alloc v1 (.cells #[.int .u64 0, .int .i64 0, .slice none 0 0] 25)
        have BEL92 := h_bel BEL91 bb
        have FA_x_92 := h_fil FA_x_91 bb
        have FA_y_92 := h_fil FA_y_91 bb
        have KB_x_92 := h_blk KB_x_91 bb
        have KB_y_92 := h_blk KB_y_91 bb
        clear BEL91 FA_x_91 FA_y_91 KB_x_91 KB_y_91
        clear bb
        have KB_p_92 : Hid (Blk (v1.alloc (.cells #[.int .u64 0, .int .i64 0, .slice none 0 0] 25)) (v1.heap.size) 25 #[.int .u64 0, .int .i64 0, .slice none 0 0]) := Blk.new _ _ _
        go_simp
        generalize (v1.alloc (.cells #[.int .u64 0, .int .i64 0, .slice none 0 0] 25)) = v24 at BEL92 FA_x_92 FA_y_92 KB_x_92 KB_y_92 KB_p_92 ⊢
        generalize v1.heap.size = gp at GE_p KB_p_92 NE_x_p NE_y_p ⊢
        refine hK.out _ _ (by exact ⟨KB_x_92.out, KB_y_92.out⟩) (fun hHeld => ?_)
        clear hK K hHeld
        refine wpAnyH_ready (rs := [2, 7]) (by kernel_rfl) (by simp) ?_
        refine AllReadyH.cons rfl (fun K hK => ?_) ?_
        · go_simp
          refine (adds_any _ _ _ a0 (N : Int) n p (addsB a0 N n (fun _ => false) L m) M FA_x_92.out (MA.out.keep (keep_of_below BEL92.out)) uS (by omega) p30 HY.out).mono ?_
          rintro e qp ⟨xp, rfl, fp, bb⟩
          have BEL93 := h_bel BEL92 bb
          have FA_x_93 := h_fil FA_x_92 bb
          have FA_y_93 := h_fil FA_y_92 bb
          have KB_x_93 := h_blk KB_x_92 bb
          have KB_y_93 := h_blk KB_y_92 bb
          have KB_p_93 := h_blk KB_p_92 bb
          clear BEL92 FA_x_92 FA_y_92 KB_x_92 KB_y_92 KB_p_92
          clear bb
          have FA_p_93 : Hid (FilterAt qp (xp) a0 (N : Int) n (addsB a0 N n (addsB a0 N n (fun _ => false) L m) M p)) := fp
          obtain ⟨vp, rfl, Ap, cp, bbp, oop, rfl, hx1, hx2, hx3⟩ := fp
          clear hx1 hx2 hx3
          go_wp2_with fail
          refine hK.out _ _ (by exact ⟨KB_x_93.out, KB_y_93.out⟩) (fun hHeld => ?_)
          clear hK K hHeld
          refine wpAnyH_ready (rs := [5, 7]) (by kernel_rfl) (by simp) ?_
          refine AllReadyH.cons rfl (fun K hK => ?_) ?_
          · go_simp
            refine (adds_any _ _ _ a0 (N : Int) n m (addsB a0 N n (fun _ => false) M p) L FA_y_93.out (LA.out.keep (keep_of_below BEL93.out)) uS (by omega) m30 HZ.out).mono ?_
            rintro e qq ⟨xq, rfl, fq, bb⟩
            have BEL94 := h_bel BEL93 bb
            have FA_x_94 := h_fil FA_x_93 bb
            have FA_y_94 := h_fil FA_y_93 bb
            have FA_p_94 := h_fil FA_p_93 bb
            have KB_x_94 := h_blk KB_x_93 bb
            have KB_y_94 := h_blk KB_y_93 bb
            have KB_p_94 := h_blk KB_p_93 bb
            clear BEL93 FA_x_93 FA_y_93 FA_p_93 KB_x_93 KB_y_93 KB_p_93
            clear bb
            have FA_q_94 : Hid (FilterAt qq (xq) a0 (N : Int) n (addsB a0 N n (addsB a0 N n (fun _ => false) M p) L m)) := fq
            obtain ⟨vq, rfl, Aq, cq, bbq, ooq, rfl, hx1, hx2, hx3⟩ := fq
            clear hx1 hx2 hx3
            go_wp2_with fail
            refine hK.out _ _ (by exact ⟨KB_x_94.out, KB_y_94.out⟩) (fun hHeld => ?_)
            clear hK K hHeld
            refine wpAnyH_ready (rs := [7]) (by kernel_rfl) (by simp) ?_
            refine AllReadyH.cons rfl (fun K hK => ?_) ?_
            · have GE_q : Hid (w.heap.size ≤ qq.heap.size) := BEL94.out.size
              have NE_x_q : Hid (gx ≠ qq.heap.size) := Nat.ne_of_lt KB_x_94.out.lt
              have NE_y_q : Hid (gy ≠ qq.heap.size) := Nat.ne_of_lt KB_y_94.out.lt
              have NE_p_q : Hid (gp ≠ qq.heap.size) := Nat.ne_of_lt KB_p_94.out.lt
              have bb := bel_alloc qq (.cells #[.int .u64 0, .int .i64 0, .slice none 0 0] 25)
              have BEL95 := h_bel BEL94 bb
              have FA_x_95 := h_fil FA_x_94 bb
              have FA_y_95 := h_fil FA_y_94 bb
              have FA_p_95 := h_fil FA_p_94 bb
              have FA_q_95 := h_fil FA_q_94 bb
              have KB_x_95 := h_blk KB_x_94 bb
              have KB_y_95 := h_blk KB_y_94 bb
              have KB_p_95 := h_blk KB_p_94 bb
              clear BEL94 FA_x_94 FA_y_94 FA_p_94 FA_q_94 KB_x_94 KB_y_94 KB_p_94
              clear bb
              have KB_q_95 : Hid (Blk (qq.alloc (.cells #[.int .u64 0, .int .i64 0, .slice none 0 0] 25)) (qq.heap.size) 25 #[.int .u64 0, .int .i64 0, .slice none 0 0]) := Blk.new _ _ _
              go_simp
              generalize (qq.alloc (.cells #[.int .u64 0, .int .i64 0, .slice none 0 0] 25)) = v25 at BEL95 FA_x_95 FA_y_95 FA_p_95 FA_q_95 KB_x_95 KB_y_95 KB_p_95 KB_q_95 ⊢
              generalize qq.heap.size = gq at GE_q KB_q_95 NE_x_q NE_y_q NE_p_q ⊢
              refine hK.out _ _ (by exact ⟨KB_x_95.out, KB_y_95.out⟩) (fun hHeld => ?_)
              clear hK K hHeld
              refine wpAnyH_ready (rs := [8]) (by kernel_rfl) (by simp) ?_
              refine AllReadyH.cons rfl (fun K hK => ?_) ?_
              rotate_left
              · exact AllReadyH.nil
              have cx0 : v25.cell? ⟨gp, 0, none⟩ = some (.int .u64 0) := KB_p_95.out.cell 0
              have cf0 := KB_p_95.out.frozen 0
              have cx1 : v25.cell? ⟨gp, 1, none⟩ = some (.int .i64 0) := KB_p_95.out.cell 1
              have cf1 := KB_p_95.out.frozen 1
              have cx2 : v25.cell? ⟨gp, 2, none⟩ = some (.slice none 0 0) := KB_p_95.out.cell 2
              have cf2 := KB_p_95.out.frozen 2
              go_simp
              clear cx0 cf0 cx1 cf1 cx2 cf2
              obtain ⟨v26, hvv26⟩ : ∃ q, q = (((v25.setCell ⟨gp, 0, none⟩ (.int .u64 a0)).setCell ⟨gp, 1, none⟩ (.int .i64 (N : Int))).setCell ⟨gp, 2, none⟩ (.slice Ap n cp)) := ⟨_, rfl⟩
              rw [← hvv26]
              have pe : v26 = put3 v25 gp (.int .u64 a0) (.int .i64 (N : Int)) (.slice Ap n cp) := hvv26
              have BEL96 := p_bel pe BEL95 GE_p
              have FA_x_96 := p_fil pe KB_p_95 FA_x_95
              have FA_y_96 := p_fil pe KB_p_95 FA_y_95
              have FA_p_96 := p_fil pe KB_p_95 FA_p_95
              have FA_q_96 := p_fil pe KB_p_95 FA_q_95
              have KB_x_96 := p_oth pe KB_x_95 (by first | exact NE_x_p | exact n_sym NE_p_x)
              have KB_y_96 := p_oth pe KB_y_95 (by first | exact NE_y_p | exact n_sym NE_p_y)
              have KB_p_96 := p_blk pe KB_p_95
              have KB_q_96 := p_oth pe KB_q_95 (by first | exact NE_q_p | exact n_sym NE_p_q)
              clear pe hvv26 BEL95 FA_x_95 FA_y_95 FA_p_95 FA_q_95 KB_x_95 KB_y_95 KB_p_95 KB_q_95
              refine hK.out _ _ (by exact ⟨KB_x_96.out, KB_y_96.out⟩) (fun hHeld => ?_)
              clear hK K hHeld
              refine wpAnyH_ready (rs := [9]) (by kernel_rfl) (by simp) ?_
              refine AllReadyH.cons rfl (fun K hK => ?_) ?_
              rotate_left
              · exact AllReadyH.nil
              have cx0 : v26.cell? ⟨gq, 0, none⟩ = some (.int .u64 0) := KB_q_96.out.cell 0
              have cf0 := KB_q_96.out.frozen 0
              have cx1 : v26.cell? ⟨gq, 1, none⟩ = some (.int .i64 0) := KB_q_96.out.cell 1
              have cf1 := KB_q_96.out.frozen 1
              have cx2 : v26.cell? ⟨gq, 2, none⟩ = some (.slice none 0 0) := KB_q_96.out.cell 2
              have cf2 := KB_q_96.out.frozen 2
              go_simp
              clear cx0 cf0 cx1 cf1 cx2 cf2
              obtain ⟨v27, hvv27⟩ : ∃ q, q = (((v26.setCell ⟨gq, 0, none⟩ (.int .u64 a0)).setCell ⟨gq, 1, none⟩ (.int .i64 (N : Int))).setCell ⟨gq, 2, none⟩ (.slice Aq n cq)) := ⟨_, rfl⟩
              rw [← hvv27]
              have pe : v27 = put3 v26 gq (.int .u64 a0) (.int .i64 (N : Int)) (.slice Aq n cq) := hvv27
              have BEL97 := p_bel pe BEL96 GE_q
              have FA_x_97 := p_fil pe KB_q_96 FA_x_96
              have FA_y_97 := p_fil pe KB_q_96 FA_y_96
              have FA_p_97 := p_fil pe KB_q_96 FA_p_96
              have FA_q_97 := p_fil pe KB_q_96 FA_q_96
              have KB_x_97 := p_oth pe KB_x_96 (by first | exact NE_x_q | exact n_sym NE_q_x)
              have KB_y_97 := p_oth pe KB_y_96 (by first | exact NE_y_q | exact n_sym NE_q_y)
              have KB_p_97 := p_oth pe KB_p_96 (by first | exact NE_p_q | exact n_sym NE_q_p)
              have KB_q_97 := p_blk pe KB_q_96
              clear pe hvv27 BEL96 FA_x_96 FA_y_96 FA_p_96 FA_q_96 KB_x_96 KB_y_96 KB_p_96 KB_q_96
              refine hK.out _ _ (by exact ⟨KB_x_97.out, KB_y_97.out⟩) (fun hHeld => ?_)
              clear hK K hHeld
              refine wpAnyH_done (by kernel_rfl) ?_ _
              refine NoPanic.normal ?_
              go_wp2_with fail
              go_meet
              case rel => exact ⟨gp, gq, Ap, cp, Aq, cq, ⟨rfl, rfl⟩, ⟨BEL97.out, KB_p_97.out, KB_q_97.out, FA_p_97.out, FA_q_97.out⟩, ⟨BEL97.out, KB_x_97.out, KB_y_97.out, FA_x_97.out, FA_y_97.out⟩⟩
            exact AllReadyH.nil
          refine AllReadyH.cons rfl (fun K hK => ?_) ?_
          · have GE_q : Hid (w.heap.size ≤ qp.heap.size) := BEL93.out.size
            have NE_x_q : Hid (gx ≠ qp.heap.size) := Nat.ne_of_lt KB_x_93.out.lt
            have NE_y_q : Hid (gy ≠ qp.heap.size) := Nat.ne_of_lt KB_y_93.out.lt
            have NE_p_q : Hid (gp ≠ qp.heap.size) := Nat.ne_of_lt KB_p_93.out.lt
            have bb := bel_alloc qp (.cells #[.int .u64 0, .int .i64 0, .slice none 0 0] 25)
            have BEL94 := h_bel BEL93 bb
            have FA_x_94 := h_fil FA_x_93 bb
            have FA_y_94 := h_fil FA_y_93 bb
            have FA_p_94 := h_fil FA_p_93 bb
            have KB_x_94 := h_blk KB_x_93 bb
            have KB_y_94 := h_blk KB_y_93 bb
            have KB_p_94 := h_blk KB_p_93 bb
            clear BEL93 FA_x_93 FA_y_93 FA_p_93 KB_x_93 KB_y_93 KB_p_93
            clear bb
            have KB_q_94 : Hid (Blk (qp.alloc (.cells #[.int .u64 0, .int .i64 0, .slice none 0 0] 25)) (qp.heap.size) 25 #[.int .u64 0, .int .i64 0, .slice none 0 0]) := Blk.new _ _ _
            go_simp
            generalize (qp.alloc (.cells #[.int .u64 0, .int .i64 0, .slice none 0 0] 25)) = v28 at BEL94 FA_x_94 FA_y_94 FA_p_94 KB_x_94 KB_y_94 KB_p_94 KB_q_94 ⊢
            generalize qp.heap.size = gq at GE_q KB_q_94 NE_x_q NE_y_q NE_p_q ⊢
            refine hK.out _ _ (by exact ⟨KB_x_94.out, KB_y_94.out⟩) (fun hHeld => ?_)
            clear hK K hHeld
            refine wpAnyH_ready (rs := [5]) (by kernel_rfl) (by simp) ?_
            refine AllReadyH.cons rfl (fun K hK => ?_) ?_
            · go_simp
              refine (adds_any _ _ _ a0 (N : Int) n m (addsB a0 N n (fun _ => false) M p) L FA_y_94.out (LA.out.keep (keep_of_below BEL94.out)) uS (by omega) m30 HZ.out).mono ?_
              rintro e qq ⟨xq, rfl, fq, bb⟩
              have BEL95 := h_bel BEL94 bb
              have FA_x_95 := h_fil FA_x_94 bb
              have FA_y_95 := h_fil FA_y_94 bb
              have FA_p_95 := h_fil FA_p_94 bb
              have KB_x_95 := h_blk KB_x_94 bb
              have KB_y_95 := h_blk KB_y_94 bb
              have KB_p_95 := h_blk KB_p_94 bb
              have KB_q_95 := h_blk KB_q_94 bb
              clear BEL94 FA_x_94 FA_y_94 FA_p_94 KB_x_94 KB_y_94 KB_p_94 KB_q_94
              clear bb
              have FA_q_95 : Hid (FilterAt qq (xq) a0 (N : Int) n (addsB a0 N n (addsB a0 N n (fun _ => false) M p) L m)) := fq
              obtain ⟨vq, rfl, Aq, cq, bbq, ooq, rfl, hx1, hx2, hx3⟩ := fq
              clear hx1 hx2 hx3
              go_wp2_with fail
              refine hK.out _ _ (by exact ⟨KB_x_95.out, KB_y_95.out⟩) (fun hHeld => ?_)
              clear hK K hHeld
              refine wpAnyH_ready (rs := [8]) (by kernel_rfl) (by simp) ?_
              refine AllReadyH.cons rfl (fun K hK => ?_) ?_
              rotate_left
              · exact AllReadyH.nil
              have cx0 : qq.cell? ⟨gp, 0, none⟩ = some (.int .u64 0) := KB_p_95.out.cell 0
              have cf0 := KB_p_95.out.frozen 0
              have cx1 : qq.cell? ⟨gp, 1, none⟩ = some (.int .i64 0) := KB_p_95.out.cell 1
              have cf1 := KB_p_95.out.frozen 1
              have cx2 : qq.cell? ⟨gp, 2, none⟩ = some (.slice none 0 0) := KB_p_95.out.cell 2
              have cf2 := KB_p_95.out.frozen 2
              go_simp
              clear cx0 cf0 cx1 cf1 cx2 cf2
              obtain ⟨v29, hvv29⟩ : ∃ q, q = (((qq.setCell ⟨gp, 0, none⟩ (.int .u64 a0)).setCell ⟨gp, 1, none⟩ (.int .i64 (N : Int))).setCell ⟨gp, 2, none⟩ (.slice Ap n cp)) := ⟨_, rfl⟩
              rw [← hvv29]
              have pe : v29 = put3 qq gp (.int .u64 a0) (.int .i64 (N : Int)) (.slice Ap n cp) := hvv29
              have BEL96 := p_bel pe BEL95 GE_p
              have FA_x_96 := p_fil pe KB_p_95 FA_x_95
              have FA_y_96 := p_fil pe KB_p_95 FA_y_95
              have FA_p_96 := p_fil pe KB_p_95 FA_p_95
              have FA_q_96 := p_fil pe KB_p_95 FA_q_95
              have KB_x_96 := p_oth pe KB_x_95 (by first | exact NE_x_p | exact n_sym NE_p_x)
              have KB_y_96 := p_oth pe KB_y_95 (by first | exact NE_y_p | exact n_sym NE_p_y)
              have KB_p_96 := p_blk pe KB_p_95
              have KB_q_96 := p_oth pe KB_q_95 (by first | exact NE_q_p | exact n_sym NE_p_q)
              clear pe hvv29 BEL95 FA_x_95 FA_y_95 FA_p_95 FA_q_95 KB_x_95 KB_y_95 KB_p_95 KB_q_95
              refine hK.out _ _ (by exact ⟨KB_x_96.out, KB_y_96.out⟩) (fun hHeld => ?_)
              clear hK K hHeld
              refine wpAnyH_ready (rs := [9]) (by kernel_rfl) (by simp) ?_
              refine AllReadyH.cons rfl (fun K hK => ?_) ?_
              rotate_left
              · exact AllReadyH.nil
              have cx0 : v29.cell? ⟨gq, 0, none⟩ = some (.int .u64 0) := KB_q_96.out.cell 0
              have cf0 := KB_q_96.out.frozen 0
              have cx1 : v29.cell? ⟨gq, 1, none⟩ = some (.int .i64 0) := KB_q_96.out.cell 1
              have cf1 := KB_q_96.out.frozen 1
              have cx2 : v29.cell? ⟨gq, 2, none⟩ = some (.slice none 0 0) := KB_q_96.out.cell 2
              have cf2 := KB_q_96.out.frozen 2
              go_simp
              clear cx0 cf0 cx1 cf1 cx2 cf2
              obtain ⟨v30, hvv30⟩ : ∃ q, q = (((v29.setCell ⟨gq, 0, none⟩ (.int .u64 a0)).setCell ⟨gq, 1, none⟩ (.int .i64 (N : Int))).setCell ⟨gq, 2, none⟩ (.slice Aq n cq)) := ⟨_, rfl⟩
              rw [← hvv30]
              have pe : v30 = put3 v29 gq (.int .u64 a0) (.int .i64 (N : Int)) (.slice Aq n cq) := hvv30
              have BEL97 := p_bel pe BEL96 GE_q
              have FA_x_97 := p_fil pe KB_q_96 FA_x_96
              have FA_y_97 := p_fil pe KB_q_96 FA_y_96
              have FA_p_97 := p_fil pe KB_q_96 FA_p_96
              have FA_q_97 := p_fil pe KB_q_96 FA_q_96
              have KB_x_97 := p_oth pe KB_x_96 (by first | exact NE_x_q | exact n_sym NE_q_x)
              have KB_y_97 := p_oth pe KB_y_96 (by first | exact NE_y_q | exact n_sym NE_q_y)
              have KB_p_97 := p_oth pe KB_p_96 (by first | exact NE_p_q | exact n_sym NE_q_p)
              have KB_q_97 := p_blk pe KB_q_96
              clear pe hvv30 BEL96 FA_x_96 FA_y_96 FA_p_96 FA_q_96 KB_x_96 KB_y_96 KB_p_96 KB_q_96
              refine hK.out _ _ (by exact ⟨KB_x_97.out, KB_y_97.out⟩) (fun hHeld => ?_)
              clear hK K hHeld
              refine wpAnyH_done (by kernel_rfl) ?_ _
              refine NoPanic.normal ?_
              go_wp2_with fail
              go_meet
              case rel => exact ⟨gp, gq, Ap, cp, Aq, cq, ⟨rfl, rfl⟩, ⟨BEL97.out, KB_p_97.out, KB_q_97.out, FA_p_97.out, FA_q_97.out⟩, ⟨BEL97.out, KB_x_97.out, KB_y_97.out, FA_x_97.out, FA_y_97.out⟩⟩
            exact AllReadyH.nil
          exact AllReadyH.nil
        refine AllReadyH.cons rfl (fun K hK => ?_) ?_
        · have GE_q : Hid (w.heap.size ≤ v24.heap.size) := BEL92.out.size
          have NE_x_q : Hid (gx ≠ v24.heap.size) := Nat.ne_of_lt KB_x_92.out.lt
          have NE_y_q : Hid (gy ≠ v24.heap.size) := Nat.ne_of_lt KB_y_92.out.lt
          have NE_p_q : Hid (gp ≠ v24.heap.size) := Nat.ne_of_lt KB_p_92.out.lt
          have bb := bel_alloc v24 (.cells #[.int .u64 0, .int .i64 0, .slice none 0 0] 25)
          have BEL93 := h_bel BEL92 bb
          have FA_x_93 := h_fil FA_x_92 bb
          have FA_y_93 := h_fil FA_y_92 bb
          have KB_x_93 := h_blk KB_x_92 bb
          have KB_y_93 := h_blk KB_y_92 bb
          have KB_p_93 := h_blk KB_p_92 bb
          clear BEL92 FA_x_92 FA_y_92 KB_x_92 KB_y_92 KB_p_92
          clear bb
          have KB_q_93 : Hid (Blk (v24.alloc (.cells #[.int .u64 0, .int .i64 0, .slice none 0 0] 25)) (v24.heap.size) 25 #[.int .u64 0, .int .i64 0, .slice none 0 0]) := Blk.new _ _ _
          go_simp
          generalize (v24.alloc (.cells #[.int .u64 0, .int .i64 0, .slice none 0 0] 25)) = v31 at BEL93 FA_x_93 FA_y_93 KB_x_93 KB_y_93 KB_p_93 KB_q_93 ⊢
          generalize v24.heap.size = gq at GE_q KB_q_93 NE_x_q NE_y_q NE_p_q ⊢
          refine hK.out _ _ (by exact ⟨KB_x_93.out, KB_y_93.out⟩) (fun hHeld => ?_)
          clear hK K hHeld
          refine wpAnyH_ready (rs := [2]) (by kernel_rfl) (by simp) ?_
          refine AllReadyH.cons rfl (fun K hK => ?_) ?_
          · go_simp
            refine (adds_any _ _ _ a0 (N : Int) n p (addsB a0 N n (fun _ => false) L m) M FA_x_93.out (MA.out.keep (keep_of_below BEL93.out)) uS (by omega) p30 HY.out).mono ?_
            rintro e qp ⟨xp, rfl, fp, bb⟩
            have BEL94 := h_bel BEL93 bb
            have FA_x_94 := h_fil FA_x_93 bb
            have FA_y_94 := h_fil FA_y_93 bb
            have KB_x_94 := h_blk KB_x_93 bb
            have KB_y_94 := h_blk KB_y_93 bb
            have KB_p_94 := h_blk KB_p_93 bb
            have KB_q_94 := h_blk KB_q_93 bb
            clear BEL93 FA_x_93 FA_y_93 KB_x_93 KB_y_93 KB_p_93 KB_q_93
            clear bb
            have FA_p_94 : Hid (FilterAt qp (xp) a0 (N : Int) n (addsB a0 N n (addsB a0 N n (fun _ => false) L m) M p)) := fp
            obtain ⟨vp, rfl, Ap, cp, bbp, oop, rfl, hx1, hx2, hx3⟩ := fp
            clear hx1 hx2 hx3
            go_wp2_with fail
            refine hK.out _ _ (by exact ⟨KB_x_94.out, KB_y_94.out⟩) (fun hHeld => ?_)
            clear hK K hHeld
            refine wpAnyH_ready (rs := [5]) (by kernel_rfl) (by simp) ?_
            refine AllReadyH.cons rfl (fun K hK => ?_) ?_
            · go_simp
              refine (adds_any _ _ _ a0 (N : Int) n m (addsB a0 N n (fun _ => false) M p) L FA_y_94.out (LA.out.keep (keep_of_below BEL94.out)) uS (by omega) m30 HZ.out).mono ?_
              rintro e qq ⟨xq, rfl, fq, bb⟩
              have BEL95 := h_bel BEL94 bb
              have FA_x_95 := h_fil FA_x_94 bb
              have FA_y_95 := h_fil FA_y_94 bb
              have FA_p_95 := h_fil FA_p_94 bb
              have KB_x_95 := h_blk KB_x_94 bb
              have KB_y_95 := h_blk KB_y_94 bb
              have KB_p_95 := h_blk KB_p_94 bb
              have KB_q_95 := h_blk KB_q_94 bb
              clear BEL94 FA_x_94 FA_y_94 FA_p_94 KB_x_94 KB_y_94 KB_p_94 KB_q_94
              clear bb
              have FA_q_95 : Hid (FilterAt qq (xq) a0 (N : Int) n (addsB a0 N n (addsB a0 N n (fun _ => false) M p) L m)) := fq
              obtain ⟨vq, rfl, Aq, cq, bbq, ooq, rfl, hx1, hx2, hx3⟩ := fq
              clear hx1 hx2 hx3
              go_wp2_with fail
              refine hK.out _ _ (by exact ⟨KB_x_95.out, KB_y_95.out⟩) (fun hHeld => ?_)
              clear hK K hHeld
              refine wpAnyH_ready (rs := [8]) (by kernel_rfl) (by simp) ?_
              refine AllReadyH.cons rfl (fun K hK => ?_) ?_
              rotate_left
              · exact AllReadyH.nil
              have cx0 : qq.cell? ⟨gp, 0, none⟩ = some (.int .u64 0) := KB_p_95.out.cell 0
              have cf0 := KB_p_95.out.frozen 0
              have cx1 : qq.cell? ⟨gp, 1, none⟩ = some (.int .i64 0) := KB_p_95.out.cell 1
              have cf1 := KB_p_95.out.frozen 1
              have cx2 : qq.cell? ⟨gp, 2, none⟩ = some (.slice none 0 0) := KB_p_95.out.cell 2
              have cf2 := KB_p_95.out.frozen 2
              go_simp
              clear cx0 cf0 cx1 cf1 cx2 cf2
              obtain ⟨v32, hvv32⟩ : ∃ q, q = (((qq.setCell ⟨gp, 0, none⟩ (.int .u64 a0)).setCell ⟨gp, 1, none⟩ (.int .i64 (N : Int))).setCell ⟨gp, 2, none⟩ (.slice Ap n cp)) := ⟨_, rfl⟩
              rw [← hvv32]
              have pe : v32 = put3 qq gp (.int .u64 a0) (.int .i64 (N : Int)) (.slice Ap n cp) := hvv32
              have BEL96 := p_bel pe BEL95 GE_p
              have FA_x_96 := p_fil pe KB_p_95 FA_x_95
              have FA_y_96 := p_fil pe KB_p_95 FA_y_95
              have FA_p_96 := p_fil pe KB_p_95 FA_p_95
              have FA_q_96 := p_fil pe KB_p_95 FA_q_95
              have KB_x_96 := p_oth pe KB_x_95 (by first | exact NE_x_p | exact n_sym NE_p_x)
              have KB_y_96 := p_oth pe KB_y_95 (by first | exact NE_y_p | exact n_sym NE_p_y)
              have KB_p_96 := p_blk pe KB_p_95
              have KB_q_96 := p_oth pe KB_q_95 (by first | exact NE_q_p | exact n_sym NE_p_q)
              clear pe hvv32 BEL95 FA_x_95 FA_y_95 FA_p_95 FA_q_95 KB_x_95 KB_y_95 KB_p_95 KB_q_95
              refine hK.out _ _ (by exact ⟨KB_x_96.out, KB_y_96.out⟩) (fun hHeld => ?_)
              clear hK K hHeld
              refine wpAnyH_ready (rs := [9]) (by kernel_rfl) (by simp) ?_
              refine AllReadyH.cons rfl (fun K hK => ?_) ?_
              rotate_left
              · exact AllReadyH.nil
              have cx0 : v32.cell? ⟨gq, 0, none⟩ = some (.int .u64 0) := KB_q_96.out.cell 0
              have cf0 := KB_q_96.out.frozen 0
              have cx1 : v32.cell? ⟨gq, 1, none⟩ = some (.int .i64 0) := KB_q_96.out.cell 1
              have cf1 := KB_q_96.out.frozen 1
              have cx2 : v32.cell? ⟨gq, 2, none⟩ = some (.slice none 0 0) := KB_q_96.out.cell 2
              have cf2 := KB_q_96.out.frozen 2
              go_simp
              clear cx0 cf0 cx1 cf1 cx2 cf2
              obtain ⟨v33, hvv33⟩ : ∃ q, q = (((v32.setCell ⟨gq, 0, none⟩ (.int .u64 a0)).setCell ⟨gq, 1, none⟩ (.int .i64 (N : Int))).setCell ⟨gq, 2, none⟩ (.slice Aq n cq)) := ⟨_, rfl⟩
              rw [← hvv33]
              have pe : v33 = put3 v32 gq (.int .u64 a0) (.int .i64 (N : Int)) (.slice Aq n cq) := hvv33
              have BEL97 := p_bel pe BEL96 GE_q
              have FA_x_97 := p_fil pe KB_q_96 FA_x_96
              have FA_y_97 := p_fil pe KB_q_96 FA_y_96
              have FA_p_97 := p_fil pe KB_q_96 FA_p_96
              have FA_q_97 := p_fil pe KB_q_96 FA_q_96
              have KB_x_97 := p_oth pe KB_x_96 (by first | exact NE_x_q | exact n_sym NE_q_x)
              have KB_y_97 := p_oth pe KB_y_96 (by first | exact NE_y_q | exact n_sym NE_q_y)
              have KB_p_97 := p_oth pe KB_p_96 (by first | exact NE_p_q | exact n_sym NE_q_p)
              have KB_q_97 := p_blk pe KB_q_96
              clear pe hvv33 BEL96 FA_x_96 FA_y_96 FA_p_96 FA_q_96 KB_x_96 KB_y_96 KB_p_96 KB_q_96
              refine hK.out _ _ (by exact ⟨KB_x_97.out, KB_y_97.out⟩) (fun hHeld => ?_)
              clear hK K hHeld
              refine wpAnyH_done (by kernel_rfl) ?_ _
              refine NoPanic.normal ?_
              go_wp2_with fail
              go_meet
              case rel => exact ⟨gp, gq, Ap, cp, Aq, cq, ⟨rfl, rfl⟩, ⟨BEL97.out, KB_p_97.out, KB_q_97.out, FA_p_97.out, FA_q_97.out⟩, ⟨BEL97.out, KB_x_97.out, KB_y_97.out, FA_x_97.out, FA_y_97.out⟩⟩
            exact AllReadyH.nil
          exact AllReadyH.nil
        exact AllReadyH.nil
      refine AllReadyH.cons rfl (fun K hK => ?_) ?_
      · have GE_q : Hid (w.heap.size ≤ v1.heap.size) := BEL91.out.size
        have NE_x_q : Hid (gx ≠ v1.heap.size) := Nat.ne_of_lt KB_x_91.out.lt
        have NE_y_q : Hid (gy ≠ v1.heap.size) := Nat.ne_of_lt KB_y_91.out.lt
        have bb := bel_alloc v1 (.cells #[.int .u64 0, .int .i64 0, .slice none 0 0] 25)
        have BEL92 := h_bel BEL91 bb
        have FA_x_92 := h_fil FA_x_91 bb
        have FA_y_92 := h_fil FA_y_91 bb
        have KB_x_92 := h_blk KB_x_91 bb
        have KB_y_92 := h_blk KB_y_91 bb
        clear BEL91 FA_x_91 FA_y_91 KB_x_91 KB_y_91
        clear bb
        have KB_q_92 : Hid (Blk (v1.alloc (.cells #[.int .u64 0, .int .i64 0, .slice none 0 0] 25)) (v1.heap.size) 25 #[.int .u64 0, .int .i64 0, .slice none 0 0]) := Blk.new _ _ _
        go_simp
        generalize (v1.alloc (.cells #[.int .u64 0, .int .i64 0, .slice none 0 0] 25)) = v34 at BEL92 FA_x_92 FA_y_92 KB_x_92 KB_y_92 KB_q_92 ⊢
        generalize v1.heap.size = gq at GE_q KB_q_92 NE_x_q NE_y_q ⊢
        refine hK.out _ _ (by exact ⟨KB_x_92.out, KB_y_92.out⟩) (fun hHeld => ?_)
        clear hK K hHeld
        refine wpAnyH_ready (rs := [2, 6]) (by kernel_rfl) (by simp) ?_
        refine AllReadyH.cons rfl (fun K hK => ?_) ?_
        · go_simp
          refine (adds_any _ _ _ a0 (N : Int) n p (addsB a0 N n (fun _ => false) L m) M FA_x_92.out (MA.out.keep (keep_of_below BEL92.out)) uS (by omega) p30 HY.out).mono ?_
          rintro e qp ⟨xp, rfl, fp, bb⟩
          have BEL93 := h_bel BEL92 bb
          have FA_x_93 := h_fil FA_x_92 bb
          have FA_y_93 := h_fil FA_y_92 bb
          have KB_x_93 := h_blk KB_x_92 bb
          have KB_y_93 := h_blk KB_y_92 bb
          have KB_q_93 := h_blk KB_q_92 bb
          clear BEL92 FA_x_92 FA_y_92 KB_x_92 KB_y_92 KB_q_92
          clear bb
          have FA_p_93 : Hid (FilterAt qp (xp) a0 (N : Int) n (addsB a0 N n (addsB a0 N n (fun _ => false) L m) M p)) := fp
          obtain ⟨vp, rfl, Ap, cp, bbp, oop, rfl, hx1, hx2, hx3⟩ := fp
          clear hx1 hx2 hx3
          go_wp2_with fail
          refine hK.out _ _ (by exact ⟨KB_x_93.out, KB_y_93.out⟩) (fun hHeld => ?_)
          clear hK K hHeld
          refine wpAnyH_ready (rs := [5, 6]) (by kernel_rfl) (by simp) ?_
          refine AllReadyH.cons rfl (fun K hK => ?_) ?_
          · go_simp
            refine (adds_any _ _ _ a0 (N : Int) n m (addsB a0 N n (fun _ => false) M p) L FA_y_93.out (LA.out.keep (keep_of_below BEL93.out)) uS (by omega) m30 HZ.out).mono ?_
            rintro e qq ⟨xq, rfl, fq, bb⟩
            have BEL94 := h_bel BEL93 bb
            have FA_x_94 := h_fil FA_x_93 bb
            have FA_y_94 := h_fil FA_y_93 bb
            have FA_p_94 := h_fil FA_p_93 bb
            have KB_x_94 := h_blk KB_x_93 bb
            have KB_y_94 := h_blk KB_y_93 bb
            have KB_q_94 := h_blk KB_q_93 bb
            clear BEL93 FA_x_93 FA_y_93 FA_p_93 KB_x_93 KB_y_93 KB_q_93
            clear bb
            have FA_q_94 : Hid (FilterAt qq (xq) a0 (N : Int) n (addsB a0 N n (addsB a0 N n (fun _ => false) M p) L m)) := fq
            obtain ⟨vq, rfl, Aq, cq, bbq, ooq, rfl, hx1, hx2, hx3⟩ := fq
            clear hx1 hx2 hx3
            go_wp2_with fail
            refine hK.out _ _ (by exact ⟨KB_x_94.out, KB_y_94.out⟩) (fun hHeld => ?_)
            clear hK K hHeld
            refine wpAnyH_ready (rs := [6]) (by kernel_rfl) (by simp) ?_
            refine AllReadyH.cons rfl (fun K hK => ?_) ?_
            · have GE_p : Hid (w.heap.size ≤ qq.heap.size) := BEL94.out.size
              have NE_x_p : Hid (gx ≠ qq.heap.size) := Nat.ne_of_lt KB_x_94.out.lt
              have NE_y_p : Hid (gy ≠ qq.heap.size) := Nat.ne_of_lt KB_y_94.out.lt
              have NE_q_p : Hid (gq ≠ qq.heap.size) := Nat.ne_of_lt KB_q_94.out.lt
              have bb := bel_alloc qq (.cells #[.int .u64 0, .int .i64 0, .slice none 0 0] 25)
              have BEL95 := h_bel BEL94 bb
              have FA_x_95 := h_fil FA_x_94 bb
              have FA_y_95 := h_fil FA_y_94 bb
              have FA_p_95 := h_fil FA_p_94 bb
              have FA_q_95 := h_fil FA_q_94 bb
              have KB_x_95 := h_blk KB_x_94 bb
              have KB_y_95 := h_blk KB_y_94 bb
              have KB_q_95 := h_blk KB_q_94 bb
              clear BEL94 FA_x_94 FA_y_94 FA_p_94 FA_q_94 KB_x_94 KB_y_94 KB_q_94
              clear bb
              have KB_p_95 : Hid (Blk (qq.alloc (.cells #[.int .u64 0, .int .i64 0, .slice none 0 0] 25)) (qq.heap.size) 25 #[.int .u64 0, .int .i64 0, .slice none 0 0]) := Blk.new _ _ _
              go_simp
              generalize (qq.alloc (.cells #[.int .u64 0, .int .i64 0, .slice none 0 0] 25)) = v35 at BEL95 FA_x_95 FA_y_95 FA_p_95 FA_q_95 KB_x_95 KB_y_95 KB_q_95 KB_p_95 ⊢
              generalize qq.heap.size = gp at GE_p KB_p_95 NE_x_p NE_y_p NE_q_p ⊢
              refine hK.out _ _ (by exact ⟨KB_x_95.out, KB_y_95.out⟩) (fun hHeld => ?_)
              clear hK K hHeld
              refine wpAnyH_ready (rs := [8]) (by kernel_rfl) (by simp) ?_
              refine AllReadyH.cons rfl (fun K hK => ?_) ?_
              rotate_left
              · exact AllReadyH.nil
              have cx0 : v35.cell? ⟨gp, 0, none⟩ = some (.int .u64 0) := KB_p_95.out.cell 0
              have cf0 := KB_p_95.out.frozen 0
              have cx1 : v35.cell? ⟨gp, 1, none⟩ = some (.int .i64 0) := KB_p_95.out.cell 1
              have cf1 := KB_p_95.out.frozen 1
              have cx2 : v35.cell? ⟨gp, 2, none⟩ = some (.slice none 0 0) := KB_p_95.out.cell 2
              have cf2 := KB_p_95.out.frozen 2
              go_simp
              clear cx0 cf0 cx1 cf1 cx2 cf2
              obtain ⟨v36, hvv36⟩ : ∃ q, q = (((v35.setCell ⟨gp, 0, none⟩ (.int .u64 a0)).setCell ⟨gp, 1, none⟩ (.int .i64 (N : Int))).setCell ⟨gp, 2, none⟩ (.slice Ap n cp)) := ⟨_, rfl⟩
              rw [← hvv36]
              have pe : v36 = put3 v35 gp (.int .u64 a0) (.int .i64 (N : Int)) (.slice Ap n cp) := hvv36
              have BEL96 := p_bel pe BEL95 GE_p
              have FA_x_96 := p_fil pe KB_p_95 FA_x_95
              have FA_y_96 := p_fil pe KB_p_95 FA_y_95
              have FA_p_96 := p_fil pe KB_p_95 FA_p_95
              have FA_q_96 := p_fil pe KB_p_95 FA_q_95
              have KB_x_96 := p_oth pe KB_x_95 (by first | exact NE_x_p | exact n_sym NE_p_x)
              have KB_y_96 := p_oth pe KB_y_95 (by first | exact NE_y_p | exact n_sym NE_p_y)
              have KB_q_96 := p_oth pe KB_q_95 (by first | exact NE_q_p | exact n_sym NE_p_q)
              have KB_p_96 := p_blk pe KB_p_95
              clear pe hvv36 BEL95 FA_x_95 FA_y_95 FA_p_95 FA_q_95 KB_x_95 KB_y_95 KB_q_95 KB_p_95
              refine hK.out _ _ (by exact ⟨KB_x_96.out, KB_y_96.out⟩) (fun hHeld => ?_)
              clear hK K hHeld
              refine wpAnyH_ready (rs := [9]) (by kernel_rfl) (by simp) ?_
              refine AllReadyH.cons rfl (fun K hK => ?_) ?_
              rotate_left
              · exact AllReadyH.nil
              have cx0 : v36.cell? ⟨gq, 0, none⟩ = some (.int .u64 0) := KB_q_96.out.cell 0
              have cf0 := KB_q_96.out.frozen 0
              have cx1 : v36.cell? ⟨gq, 1, none⟩ = some (.int .i64 0) := KB_q_96.out.cell 1
              have cf1 := KB_q_96.out.frozen 1
              have cx2 : v36.cell? ⟨gq, 2, none⟩ = some (.slice none 0 0) := KB_q_96.out.cell 2
              have cf2 := KB_q_96.out.frozen 2
              go_simp
              clear cx0 cf0 cx1 cf1 cx2 cf2
              obtain ⟨v37, hvv37⟩ : ∃ q, q = (((v36.setCell ⟨gq, 0, none⟩ (.int .u64 a0)).setCell ⟨gq, 1, none⟩ (.int .i64 (N : Int))).setCell ⟨gq, 2, none⟩ (.slice Aq n cq)) := ⟨_, rfl⟩
              rw [← hvv37]
              have pe : v37 = put3 v36 gq (.int .u64 a0) (.int .i64 (N : Int)) (.slice Aq n cq) := hvv37
              have BEL97 := p_bel pe BEL96 GE_q
              have FA_x_97 := p_fil pe KB_q_96 FA_x_96
              have FA_y_97 := p_fil pe KB_q_96 FA_y_96
              have FA_p_97 := p_fil pe KB_q_96 FA_p_96
              have FA_q_97 := p_fil pe KB_q_96 FA_q_96
              have KB_x_97 := p_oth pe KB_x_96 (by first | exact NE_x_q | exact n_sym NE_q_x)
              have KB_y_97 := p_oth pe KB_y_96 (by first | exact NE_y_q | exact n_sym NE_q_y)
              have KB_q_97 := p_blk pe KB_q_96
              have KB_p_97 := p_oth pe KB_p_96 (by first | exact NE_p_q | exact n_sym NE_q_p)
              clear pe hvv37 BEL96 FA_x_96 FA_y_96 FA_p_96 FA_q_96 KB_x_96 KB_y_96 KB_q_96 KB_p_96
              refine hK.out _ _ (by exact ⟨KB_x_97.out, KB_y_97.out⟩) (fun hHeld => ?_)
              clear hK K hHeld
              refine wpAnyH_done (by kernel_rfl) ?_ _
              refine NoPanic.normal ?_
              go_wp2_with fail
              go_meet
              case rel => exact ⟨gp, gq, Ap, cp, Aq, cq, ⟨rfl, rfl⟩, ⟨BEL97.out, KB_p_97.out, KB_q_97.out, FA_p_97.out, FA_q_97.out⟩, ⟨BEL97.out, KB_x_97.out, KB_y_97.out, FA_x_97.out, FA_y_97.out⟩⟩
            exact AllReadyH.nil
          refine AllReadyH.cons rfl (fun K hK => ?_) ?_
          · have GE_p : Hid (w.heap.size ≤ qp.heap.size) := BEL93.out.size
            have NE_x_p : Hid (gx ≠ qp.heap.size) := Nat.ne_of_lt KB_x_93.out.lt
            have NE_y_p : Hid (gy ≠ qp.heap.size) := Nat.ne_of_lt KB_y_93.out.lt
            have NE_q_p : Hid (gq ≠ qp.heap.size) := Nat.ne_of_lt KB_q_93.out.lt
            have bb := bel_alloc qp (.cells #[.int .u64 0, .int .i64 0, .slice none 0 0] 25)
            have BEL94 := h_bel BEL93 bb
            have FA_x_94 := h_fil FA_x_93 bb
            have FA_y_94 := h_fil FA_y_93 bb
            have FA_p_94 := h_fil FA_p_93 bb
            have KB_x_94 := h_blk KB_x_93 bb
            have KB_y_94 := h_blk KB_y_93 bb
            have KB_q_94 := h_blk KB_q_93 bb
            clear BEL93 FA_x_93 FA_y_93 FA_p_93 KB_x_93 KB_y_93 KB_q_93
            clear bb
            have KB_p_94 : Hid (Blk (qp.alloc (.cells #[.int .u64 0, .int .i64 0, .slice none 0 0] 25)) (qp.heap.size) 25 #[.int .u64 0, .int .i64 0, .slice none 0 0]) := Blk.new _ _ _
            go_simp
            generalize (qp.alloc (.cells #[.int .u64 0, .int .i64 0, .slice none 0 0] 25)) = v38 at BEL94 FA_x_94 FA_y_94 FA_p_94 KB_x_94 KB_y_94 KB_q_94 KB_p_94 ⊢
            generalize qp.heap.size = gp at GE_p KB_p_94 NE_x_p NE_y_p NE_q_p ⊢
            refine hK.out _ _ (by exact ⟨KB_x_94.out, KB_y_94.out⟩) (fun hHeld => ?_)
            clear hK K hHeld
            refine wpAnyH_ready (rs := [5]) (by kernel_rfl) (by simp) ?_
            refine AllReadyH.cons rfl (fun K hK => ?_) ?_
            · go_simp
              refine (adds_any _ _ _ a0 (N : Int) n m (addsB a0 N n (fun _ => false) M p) L FA_y_94.out (LA.out.keep (keep_of_below BEL94.out)) uS (by omega) m30 HZ.out).mono ?_
              rintro e qq ⟨xq, rfl, fq, bb⟩
              have BEL95 := h_bel BEL94 bb
              have FA_x_95 := h_fil FA_x_94 bb
              have FA_y_95 := h_fil FA_y_94 bb
              have FA_p_95 := h_fil FA_p_94 bb
              have KB_x_95 := h_blk KB_x_94 bb
              have KB_y_95 := h_blk KB_y_94 bb
              have KB_q_95 := h_blk KB_q_94 bb
              have KB_p_95 := h_blk KB_p_94 bb
              clear BEL94 FA_x_94 FA_y_94 FA_p_94 KB_x_94 KB_y_94 KB_q_94 KB_p_94
              clear bb
              have FA_q_95 : Hid (FilterAt qq (xq) a0 (N : Int) n (addsB a0 N n (addsB a0 N n (fun _ => false) M p) L m)) := fq
              obtain ⟨vq, rfl, Aq, cq, bbq, ooq, rfl, hx1, hx2, hx3⟩ := fq
              clear hx1 hx2 hx3
              go_wp2_with fail
              refine hK.out _ _ (by exact ⟨KB_x_95.out, KB_y_95.out⟩) (fun hHeld => ?_)
              clear hK K hHeld
              refine wpAnyH_ready (rs := [8]) (by kernel_rfl) (by simp) ?_
              refine AllReadyH.cons rfl (fun K hK => ?_) ?_
              rotate_left
              · exact AllReadyH.nil
              have cx0 : qq.cell? ⟨gp, 0, none⟩ = some (.int .u64 0) := KB_p_95.out.cell 0
              have cf0 := KB_p_95.out.frozen 0
              have cx1 : qq.cell? ⟨gp, 1, none⟩ = some (.int .i64 0) := KB_p_95.out.cell 1
              have cf1 := KB_p_95.out.frozen 1
              have cx2 : qq.cell? ⟨gp, 2, none⟩ = some (.slice none 0 0) := KB_p_95.out.cell 2
              have cf2 := KB_p_95.out.frozen 2
              go_simp
              clear cx0 cf0 cx1 cf1 cx2 cf2
              obtain ⟨v39, hvv39⟩ : ∃ q, q = (((qq.setCell ⟨gp, 0, none⟩ (.int .u64 a0)).setCell ⟨gp, 1, none⟩ (.int .i64 (N : Int))).setCell ⟨gp, 2, none⟩ (.slice Ap n cp)) := ⟨_, rfl⟩
              rw [← hvv39]
              have pe : v39 = put3 qq gp (.int .u64 a0) (.int .i64 (N : Int)) (.slice Ap n cp) := hvv39
              have BEL96 := p_bel pe BEL95 GE_p
              have FA_x_96 := p_fil pe KB_p_95 FA_x_95
              have FA_y_96 := p_fil pe KB_p_95 FA_y_95
              have FA_p_96 := p_fil pe KB_p_95 FA_p_95
              have FA_q_96 := p_fil pe KB_p_95 FA_q_95
              have KB_x_96 := p_oth pe KB_x_95 (by first | exact NE_x_p | exact n_sym NE_p_x)
              have KB_y_96 := p_oth pe KB_y_95 (by first | exact NE_y_p | exact n_sym NE_p_y)
              have KB_q_96 := p_oth pe KB_q_95 (by first | exact NE_q_p | exact n_sym NE_p_q)
              have KB_p_96 := p_blk pe KB_p_95
              clear pe hvv39 BEL95 FA_x_95 FA_y_95 FA_p_95 FA_q_95 KB_x_95 KB_y_95 KB_q_95 KB_p_95
              refine hK.out _ _ (by exact ⟨KB_x_96.out, KB_y_96.out⟩) (fun hHeld => ?_)
              clear hK K hHeld
              refine wpAnyH_ready (rs := [9]) (by kernel_rfl) (by simp) ?_
              refine AllReadyH.cons rfl (fun K hK => ?_) ?_
              rotate_left
              · exact AllReadyH.nil
              have cx0 : v39.cell? ⟨gq, 0, none⟩ = some (.int .u64 0) := KB_q_96.out.cell 0
              have cf0 := KB_q_96.out.frozen 0
              have cx1 : v39.cell? ⟨gq, 1, none⟩ = some (.int .i64 0) := KB_q_96.out.cell 1
              have cf1 := KB_q_96.out.frozen 1
              have cx2 : v39.cell? ⟨gq, 2, none⟩ = some (.slice none 0 0) := KB_q_96.out.cell 2
              have cf2 := KB_q_96.out.frozen 2
              go_simp
              clear cx0 cf0 cx1 cf1 cx2 cf2
              obtain ⟨v40, hvv40⟩ : ∃ q, q = (((v39.setCell ⟨gq, 0, none⟩ (.int .u64 a0)).setCell ⟨gq, 1, none⟩ (.int .i64 (N : Int))).setCell ⟨gq, 2, none⟩ (.slice Aq n cq)) := ⟨_, rfl⟩
              rw [← hvv40]
              have pe : v40 = put3 v39 gq (.int .u64 a0) (.int .i64 (N : Int)) (.slice Aq n cq) := hvv40
              have BEL97 := p_bel pe BEL96 GE_q
              have FA_x_97 := p_fil pe KB_q_96 FA_x_96
              have FA_y_97 := p_fil pe KB_q_96 FA_y_96
              have FA_p_97 := p_fil pe KB_q_96 FA_p_96
              have FA_q_97 := p_fil pe KB_q_96 FA_q_96
              have KB_x_97 := p_oth pe KB_x_96 (by first | exact NE_x_q | exact n_sym NE_q_x)
              have KB_y_97 := p_oth pe KB_y_96 (by first | exact NE_y_q | exact n_sym NE_q_y)
              have KB_q_97 := p_blk pe KB_q_96
              have KB_p_97 := p_oth pe KB_p_96 (by first | exact NE_p_q | exact n_sym NE_q_p)
              clear pe hvv40 BEL96 FA_x_96 FA_y_96 FA_p_96 FA_q_96 KB_x_96 KB_y_96 KB_q_96 KB_p_96
              refine hK.out _ _ (by exact ⟨KB_x_97.out, KB_y_97.out⟩) (fun hHeld => ?_)
              clear hK K hHeld
              refine wpAnyH_done (by kernel_rfl) ?_ _
              refine NoPanic.normal ?_
              go_wp2_with fail
              go_meet
              case rel => exact ⟨gp, gq, Ap, cp, Aq, cq, ⟨rfl, rfl⟩, ⟨BEL97.out, KB_p_97.out, KB_q_97.out, FA_p_97.out, FA_q_97.out⟩, ⟨BEL97.out, KB_x_97.out, KB_y_97.out, FA_x_97.out, FA_y_97.out⟩⟩
            exact AllReadyH.nil
          exact AllReadyH.nil
        refine AllReadyH.cons rfl (fun K hK => ?_) ?_
        · have GE_p : Hid (w.heap.size ≤ v34.heap.size) := BEL92.out.size
          have NE_x_p : Hid (gx ≠ v34.heap.size) := Nat.ne_of_lt KB_x_92.out.lt
          have NE_y_p : Hid (gy ≠ v34.heap.size) := Nat.ne_of_lt KB_y_92.out.lt
          have NE_q_p : Hid (gq ≠ v34.heap.size) := Nat.ne_of_lt KB_q_92.out.lt
          have bb := bel_alloc v34 (.cells #[.int .u64 0, .int .i64 0, .slice none 0 0] 25)
          have BEL93 := h_bel BEL92 bb
          have FA_x_93 := h_fil FA_x_92 bb
          have FA_y_93 := h_fil FA_y_92 bb
          have KB_x_93 := h_blk KB_x_92 bb
          have KB_y_93 := h_blk KB_y_92 bb
          have KB_q_93 := h_blk KB_q_92 bb
          clear BEL92 FA_x_92 FA_y_92 KB_x_92 KB_y_92 KB_q_92
          clear bb
          have KB_p_93 : Hid (Blk (v34.alloc (.cells #[.int .u64 0, .int .i64 0, .slice none 0 0] 25)) (v34.heap.size) 25 #[.int .u64 0, .int .i64 0, .slice none 0 0]) := Blk.new _ _ _
          go_simp
          generalize (v34.alloc (.cells #[.int .u64 0, .int .i64 0, .slice none 0 0] 25)) = v41 at BEL93 FA_x_93 FA_y_93 KB_x_93 KB_y_93 KB_q_93 KB_p_93 ⊢
          generalize v34.heap.size = gp at GE_p KB_p_93 NE_x_p NE_y_p NE_q_p ⊢
          refine hK.out _ _ (by exact ⟨KB_x_93.out, KB_y_93.out⟩) (fun hHeld => ?_)
          clear hK K hHeld
          refine wpAnyH_ready (rs := [2]) (by kernel_rfl) (by simp) ?_
          refine AllReadyH.cons rfl (fun K hK => ?_) ?_
          · go_simp
            refine (adds_any _ _ _ a0 (N : Int) n p (addsB a0 N n (fun _ => false) L m) M FA_x_93.out (MA.out.keep (keep_of_below BEL93.out)) uS (by omega) p30 HY.out).mono ?_
            rintro e qp ⟨xp, rfl, fp, bb⟩
            have BEL94 := h_bel BEL93 bb
            have FA_x_94 := h_fil FA_x_93 bb
            have FA_y_94 := h_fil FA_y_93 bb
            have KB_x_94 := h_blk KB_x_93 bb
            have KB_y_94 := h_blk KB_y_93 bb
            have KB_q_94 := h_blk KB_q_93 bb
            have KB_p_94 := h_blk KB_p_93 bb
            clear BEL93 FA_x_93 FA_y_93 KB_x_93 KB_y_93 KB_q_93 KB_p_93
            clear bb
            have FA_p_94 : Hid (FilterAt qp (xp) a0 (N : Int) n (addsB a0 N n (addsB a0 N n (fun _ => false) L m) M p)) := fp
            obtain ⟨vp, rfl, Ap, cp, bbp, oop, rfl, hx1, hx2, hx3⟩ := fp
            clear hx1 hx2 hx3
            go_wp2_with fail
            refine hK.out _ _ (by exact ⟨KB_x_94.out, KB_y_94.out⟩) (fun hHeld => ?_)
            clear hK K hHeld
            refine wpAnyH_ready (rs := [5]) (by kernel_rfl) (by simp) ?_
            refine AllReadyH.cons rfl (fun K hK => ?_) ?_
            · go_simp
              refine (adds_any _ _ _ a0 (N : Int) n m (addsB a0 N n (fun _ => false) M p) L FA_y_94.out (LA.out.keep (keep_of_below BEL94.out)) uS (by omega) m30 HZ.out).mono ?_
              rintro e qq ⟨xq, rfl, fq, bb⟩
              have BEL95 := h_bel BEL94 bb
              have FA_x_95 := h_fil FA_x_94 bb
              have FA_y_95 := h_fil FA_y_94 bb
              have FA_p_95 := h_fil FA_p_94 bb
              have KB_x_95 := h_blk KB_x_94 bb
              have KB_y_95 := h_blk KB_y_94 bb
              have KB_q_95 := h_blk KB_q_94 bb
              have KB_p_95 := h_blk KB_p_94 bb
              clear BEL94 FA_x_94 FA_y_94 FA_p_94 KB_x_94 KB_y_94 KB_q_94 KB_p_94
              clear bb
              have FA_q_95 : Hid (FilterAt qq (xq) a0 (N : Int) n (addsB a0 N n (addsB a0 N n (fun _ => false) M p) L m)) := fq
              obtain ⟨vq, rfl, Aq, cq, bbq, ooq, rfl, hx1, hx2, hx3⟩ := fq
              clear hx1 hx2 hx3
              go_wp2_with fail
              refine hK.out _ _ (by exact ⟨KB_x_95.out, KB_y_95.out⟩) (fun hHeld => ?_)
              clear hK K hHeld
              refine wpAnyH_ready (rs := [8]) (by kernel_rfl) (by simp) ?_
              refine AllReadyH.cons rfl (fun K hK => ?_) ?_
              rotate_left
              · exact AllReadyH.nil
              have cx0 : qq.cell? ⟨gp, 0, none⟩ = some (.int .u64 0) := KB_p_95.out.cell 0
              have cf0 := KB_p_95.out.frozen 0
              have cx1 : qq.cell? ⟨gp, 1, none⟩ = some (.int .i64 0) := KB_p_95.out.cell 1
              have cf1 := KB_p_95.out.frozen 1
              have cx2 : qq.cell? ⟨gp, 2, none⟩ = some (.slice none 0 0) := KB_p_95.out.cell 2
              have cf2 := KB_p_95.out.frozen 2
              go_simp
              clear cx0 cf0 cx1 cf1 cx2 cf2
              obtain ⟨v42, hvv42⟩ : ∃ q, q = (((qq.setCell ⟨gp, 0, none⟩ (.int .u64 a0)).setCell ⟨gp, 1, none⟩ (.int .i64 (N : Int))).setCell ⟨gp, 2, none⟩ (.slice Ap n cp)) := ⟨_, rfl⟩
              rw [← hvv42]
              have pe : v42 = put3 qq gp (.int .u64 a0) (.int .i64 (N : Int)) (.slice Ap n cp) := hvv42
              have BEL96 := p_bel pe BEL95 GE_p
              have FA_x_96 := p_fil pe KB_p_95 FA_x_95
              have FA_y_96 := p_fil pe KB_p_95 FA_y_95
              have FA_p_96 := p_fil pe KB_p_95 FA_p_95
              have FA_q_96 := p_fil pe KB_p_95 FA_q_95
              have KB_x_96 := p_oth pe KB_x_95 (by first | exact NE_x_p | exact n_sym NE_p_x)
              have KB_y_96 := p_oth pe KB_y_95 (by first | exact NE_y_p | exact n_sym NE_p_y)
              have KB_q_96 := p_oth pe KB_q_95 (by first | exact NE_q_p | exact n_sym NE_p_q)
              have KB_p_96 := p_blk pe KB_p_95
              clear pe hvv42 BEL95 FA_x_95 FA_y_95 FA_p_95 FA_q_95 KB_x_95 KB_y_95 KB_q_95 KB_p_95
              refine hK.out _ _ (by exact ⟨KB_x_96.out, KB_y_96.out⟩) (fun hHeld => ?_)
              clear hK K hHeld
              refine wpAnyH_ready (rs := [9]) (by kernel_rfl) (by simp) ?_
              refine AllReadyH.cons rfl (fun K hK => ?_) ?_
              rotate_left
              · exact AllReadyH.nil
              have cx0 : v42.cell? ⟨gq, 0, none⟩ = some (.int .u64 0) := KB_q_96.out.cell 0
              have cf0 := KB_q_96.out.frozen 0
              have cx1 : v42.cell? ⟨gq, 1, none⟩ = some (.int .i64 0) := KB_q_96.out.cell 1
              have cf1 := KB_q_96.out.frozen 1
              have cx2 : v42.cell? ⟨gq, 2, none⟩ = some (.slice none 0 0) := KB_q_96.out.cell 2
              have cf2 := KB_q_96.out.frozen 2
              go_simp
              clear cx0 cf0 cx1 cf1 cx2 cf2
              obtain ⟨v43, hvv43⟩ : ∃ q, q = (((v42.setCell ⟨gq, 0, none⟩ (.int .u64 a0)).setCell ⟨gq, 1, none⟩ (.int .i64 (N : Int))).setCell ⟨gq, 2, none⟩ (.slice Aq n cq)) := ⟨_, rfl⟩
              rw [← hvv43]
              have pe : v43 = put3 v42 gq (.int .u64 a0) (.int .i64 (N : Int)) (.slice Aq n cq) := hvv43
              have BEL97 := p_bel pe BEL96 GE_q
              have FA_x_97 := p_fil pe KB_q_96 FA_x_96
              have FA_y_97 := p_fil pe KB_q_96 FA_y_96
              have FA_p_97 := p_fil pe KB_q_96 FA_p_96
              have FA_q_97 := p_fil pe KB_q_96 FA_q_96
              have KB_x_97 := p_oth pe KB_x_96 (by first | exact NE_x_q | exact n_sym NE_q_x)
              have KB_y_97 := p_oth pe KB_y_96 (by first | exact NE_y_q | exact n_sym NE_q_y)
              have KB_q_97 := p_blk pe KB_q_96
              have KB_p_97 := p_oth pe KB_p_96 (by first | exact NE_p_q | exact n_sym NE_q_p)
              clear pe hvv43 BEL96 FA_x_96 FA_y_96 FA_p_96 FA_q_96 KB_x_96 KB_y_96 KB_q_96 KB_p_96
              refine hK.out _ _ (by exact ⟨KB_x_97.out, KB_y_97.out⟩) (fun hHeld => ?_)
              clear hK K hHeld
              refine wpAnyH_done (by kernel_rfl) ?_ _
              refine NoPanic.normal ?_
              go_wp2_with fail
              go_meet
              case rel => exact ⟨gp, gq, Ap, cp, Aq, cq, ⟨rfl, rfl⟩, ⟨BEL97.out, KB_p_97.out, KB_q_97.out, FA_p_97.out, FA_q_97.out⟩, ⟨BEL97.out, KB_x_97.out, KB_y_97.out, FA_x_97.out, FA_y_97.out⟩⟩
            exact AllReadyH.nil
          exact AllReadyH.nil
        exact AllReadyH.nil
      exact AllReadyH.nil
    case rest =>
      obtain ⟨gp, gq, Ap, cp, Aq, cq, ⟨rfl, rfl⟩, T, T2⟩ := hcut
      have BEL190 : Hid (Below w.heap.size w wc) := T.since
      have FA_x_190 : Hid (FilterAt wc (.agg #[.int .u64 a0, .int .i64 (N : Int), .slice Ax n cx]) a0 (N : Int) n (addsB a0 N n (fun _ => false) L m)) := T2.fx
      have FA_y_190 : Hid (FilterAt wc (.agg #[.int .u64 a0, .int .i64 (N : Int), .slice Ay n cy]) a0 (N : Int) n (addsB a0 N n (fun _ => false) M p)) := T2.fy
      have FA_p_190 : Hid (FilterAt wc (.agg #[.int .u64 a0, .int .i64 (N : Int), .slice Ap n cp]) a0 (N : Int) n (addsB a0 N n (addsB a0 N n (fun _ => false) L m) M p)) := T.fx
      have FA_q_190 : Hid (FilterAt wc (.agg #[.int .u64 a0, .int .i64 (N : Int), .slice Aq n cq]) a0 (N : Int) n (addsB a0 N n (addsB a0 N n (fun _ => false) M p) L m)) := T.fy
      have KB_x_190 : Hid (Blk wc (gx) 25 #[.int .u64 a0, .int .i64 (N : Int), .slice Ax n cx]) := T2.bx
      have KB_y_190 : Hid (Blk wc (gy) 25 #[.int .u64 a0, .int .i64 (N : Int), .slice Ay n cy]) := T2.yx
      have KB_p_190 : Hid (Blk wc (gp) 25 #[.int .u64 a0, .int .i64 (N : Int), .slice Ap n cp]) := T.bx
      have KB_q_190 : Hid (Blk wc (gq) 25 #[.int .u64 a0, .int .i64 (N : Int), .slice Aq n cq]) := T.yx
      clear T T2 BEL90 FA_x_90 FA_y_90 KB_x_90 KB_y_90
      have CE_x_0 : wc.cell? ⟨gx, 0, none⟩ = some (.int .u64 a0) := KB_x_190.out.cell 0
      have CE_x_1 : wc.cell? ⟨gx, 1, none⟩ = some (.int .i64 (N : Int)) := KB_x_190.out.cell 1
      have CE_x_2 : wc.cell? ⟨gx, 2, none⟩ = some (.slice Ax n cx) := KB_x_190.out.cell 2
      have CE_x_lt : gx < wc.heap.size := KB_x_190.out.lt
      have CE_y_0 : wc.cell? ⟨gy, 0, none⟩ = some (.int .u64 a0) := KB_y_190.out.cell 0
      have CE_y_1 : wc.cell? ⟨gy, 1, none⟩ = some (.int .i64 (N : Int)) := KB_y_190.out.cell 1
      have CE_y_2 : wc.cell? ⟨gy, 2, none⟩ = some (.slice Ay n cy) := KB_y_190.out.cell 2
      have CE_y_lt : gy < wc.heap.size := KB_y_190.out.lt
      go_wp2_with fail
      refine (merge_ok _ _ _ a0 (N : Int) n _ _ FA_x_190.out FA_y_190.out HF.out).mono ?_
      rintro e wm ⟨xm, rfl, fm, b1⟩
      clear CE_x_0 CE_x_1 CE_x_2 CE_x_lt CE_y_0 CE_y_1 CE_y_2 CE_y_lt
      have BEL191 : Hid (Below w.heap.size w wm) := bel_trans BEL190.out b1
      have FA_x_191 : Hid (FilterAt wm (.agg #[.int .u64 a0, .int .i64 (N : Int), .slice Ax n cx]) a0 (N : Int) n (addsB a0 N n (fun _ => false) L m)) := FA_x_190.out.keep (keep_of_below b1)
      have FA_y_191 : Hid (FilterAt wm (.agg #[.int .u64 a0, .int .i64 (N : Int), .slice Ay n cy]) a0 (N : Int) n (addsB a0 N n (fun _ => false) M p)) := FA_y_190.out.keep (keep_of_below b1)
      have FA_p_191 : Hid (FilterAt wm (.agg #[.int .u64 a0, .int .i64 (N : Int), .slice Ap n cp]) a0 (N : Int) n (addsB a0 N n (addsB a0 N n (fun _ => false) L m) M p)) := FA_p_190.out.keep (keep_of_below b1)
      have FA_q_191 : Hid (FilterAt wm (.agg #[.int .u64 a0, .int .i64 (N : Int), .slice Aq n cq]) a0 (N : Int) n (addsB a0 N n (addsB a0 N n (fun _ => false) M p) L m)) := FA_q_190.out.keep (keep_of_below b1)
      have KB_x_191 : Hid (Blk wm (gx) 25 #[.int .u64 a0, .int .i64 (N : Int), .slice Ax n cx]) := KB_x_190.out.since b1
      have KB_y_191 : Hid (Blk wm (gy) 25 #[.int .u64 a0, .int .i64 (N : Int), .slice Ay n cy]) := KB_y_190.out.since b1
      have KB_p_191 : Hid (Blk wm (gp) 25 #[.int .u64 a0, .int .i64 (N : Int), .slice Ap n cp]) := KB_p_190.out.since b1
      have KB_q_191 : Hid (Blk wm (gq) 25 #[.int .u64 a0, .int .i64 (N : Int), .slice Aq n cq]) := KB_q_190.out.since b1
      clear BEL190 FA_x_190 FA_y_190 FA_p_190 FA_q_190 KB_x_190 KB_y_190 KB_p_190 KB_q_190
      clear b1
      have FA_m_191 : Hid (FilterAt wm (xm) a0 (N : Int) n (fun i => (addsB a0 N n (fun _ => false) L m) i || (addsB a0 N n (fun _ => false) M p) i)) := fm
      obtain ⟨vm, rfl, Am, cm, bbm, oom, rfl, hx1, hx2, hx3⟩ := fm
      clear hx1 hx2 hx3
      clear FA_x_191
      clear KB_x_191
      clear FA_y_191
      clear KB_y_191
      go_upto_region 9 with fail
      have BEL192 : Hid (Below w.heap.size w (wm.alloc (.cells #[.int .u64 a0, .int .i64 (N : Int), .slice Am n cm] 25))) := bel_trans BEL191.out (bel_alloc _ _)
      have FA_p_192 : Hid (FilterAt (wm.alloc (.cells #[.int .u64 a0, .int .i64 (N : Int), .slice Am n cm] 25)) (.agg #[.int .u64 a0, .int .i64 (N : Int), .slice Ap n cp]) a0 (N : Int) n (addsB a0 N n (addsB a0 N n (fun _ => false) L m) M p)) := FA_p_191.out.keep (keep_of_below (bel_alloc _ _))
      have FA_q_192 : Hid (FilterAt (wm.alloc (.cells #[.int .u64 a0, .int .i64 (N : Int), .slice Am n cm] 25)) (.agg #[.int .u64 a0, .int .i64 (N : Int), .slice Aq n cq]) a0 (N : Int) n (addsB a0 N n (addsB a0 N n (fun _ => false) M p) L m)) := FA_q_191.out.keep (keep_of_below (bel_alloc _ _))
      have FA_m_192 : Hid (FilterAt (wm.alloc (.cells #[.int .u64 a0, .int .i64 (N : Int), .slice Am n cm] 25)) (.agg #[.int .u64 a0, .int .i64 (N : Int), .slice Am n cm]) a0 (N : Int) n (fun i => (addsB a0 N n (fun _ => false) L m) i || (addsB a0 N n (fun _ => false) M p) i)) := FA_m_191.out.keep (keep_of_below (bel_alloc _ _))
      have KB_p_192 : Hid (Blk (wm.alloc (.cells #[.int .u64 a0, .int .i64 (N : Int), .slice Am n cm] 25)) (gp) 25 #[.int .u64 a0, .int .i64 (N : Int), .slice Ap n cp]) := KB_p_191.out.since (bel_alloc _ _)
      have KB_q_192 : Hid (Blk (wm.alloc (.cells #[.int .u64 a0, .int .i64 (N : Int), .slice Am n cm] 25)) (gq) 25 #[.int .u64 a0, .int .i64 (N : Int), .slice Aq n cq]) := KB_q_191.out.since (bel_alloc _ _)
      clear BEL191 FA_p_191 FA_q_191 FA_m_191 KB_p_191 KB_q_191
      have KB_m_192 : Hid (Blk (wm.alloc (.cells #[.int .u64 a0, .int .i64 (N : Int), .slice Am n cm] 25)) (wm.heap.size) 25 #[.int .u64 a0, .int .i64 (N : Int), .slice Am n cm]) := Blk.new _ _ _
      generalize (wm.alloc (.cells #[.int .u64 a0, .int .i64 (N : Int), .slice Am n cm] 25)) = u5 at BEL192 FA_p_192 FA_q_192 FA_m_192 KB_p_192 KB_q_192 KB_m_192 ⊢
      generalize wm.heap.size = gm at KB_m_192 ⊢
      go_wp2_with fail
      have BEL193 : Hid (Below w.heap.size w (u5.alloc (.cells #[.slice Al m capl, .slice Ak p capm] 48))) := bel_trans BEL192.out (bel_alloc _ _)
      have FA_p_193 : Hid (FilterAt (u5.alloc (.cells #[.slice Al m capl, .slice Ak p capm] 48)) (.agg #[.int .u64 a0, .int .i64 (N : Int), .slice Ap n cp]) a0 (N : Int) n (addsB a0 N n (addsB a0 N n (fun _ => false) L m) M p)) := FA_p_192.out.keep (keep_of_below (bel_alloc _ _))
      have FA_q_193 : Hid (FilterAt (u5.alloc (.cells #[.slice Al m capl, .slice Ak p capm] 48)) (.agg #[.int .u64 a0, .int .i64 (N : Int), .slice Aq n cq]) a0 (N : Int) n (addsB a0 N n (addsB a0 N n (fun _ => false) M p) L m)) := FA_q_192.out.keep (keep_of_below (bel_alloc _ _))
      have FA_m_193 : Hid (FilterAt (u5.alloc (.cells #[.slice Al m capl, .slice Ak p capm] 48)) (.agg #[.int .u64 a0, .int .i64 (N : Int), .slice Am n cm]) a0 (N : Int) n (fun i => (addsB a0 N n (fun _ => false) L m) i || (addsB a0 N n (fun _ => false) M p) i)) := FA_m_192.out.keep (keep_of_below (bel_alloc _ _))
      have KB_p_193 : Hid (Blk (u5.alloc (.cells #[.slice Al m capl, .slice Ak p capm] 48)) (gp) 25 #[.int .u64 a0, .int .i64 (N : Int), .slice Ap n cp]) := KB_p_192.out.since (bel_alloc _ _)
      have KB_q_193 : Hid (Blk (u5.alloc (.cells #[.slice Al m capl, .slice Ak p capm] 48)) (gq) 25 #[.int .u64 a0, .int .i64 (N : Int), .slice Aq n cq]) := KB_q_192.out.since (bel_alloc _ _)
      have KB_m_193 : Hid (Blk (u5.alloc (.cells #[.slice Al m capl, .slice Ak p capm] 48)) (gm) 25 #[.int .u64 a0, .int .i64 (N : Int), .slice Am n cm]) := KB_m_192.out.since (bel_alloc _ _)
      clear BEL192 FA_p_192 FA_q_192 FA_m_192 KB_p_192 KB_q_192 KB_m_192
      have KB_ls_193 : Hid (Blk (u5.alloc (.cells #[.slice Al m capl, .slice Ak p capm] 48)) (u5.heap.size) 48 #[.slice Al m capl, .slice Ak p capm]) := Blk.new _ _ _
      generalize (u5.alloc (.cells #[.slice Al m capl, .slice Ak p capm] 48)) = u6 at BEL193 FA_p_193 FA_q_193 FA_m_193 KB_p_193 KB_q_193 KB_m_193 KB_ls_193 ⊢
      generalize u5.heap.size = gl at KB_ls_193 ⊢
      have HL : Hid (∀ w1 j, j < m → Below u6.heap.size u6 w1 → Calls Try.prog 19 #[.agg #[.int .u64 a0, .int .i64 (N : Int), .slice Ap n cp], .string (L j)] w1 fun e w' => e = .returned (.bool true) ∧ Below u6.heap.size u6 w') := fun w1 j hj b1 =>
        (has_any w1 _ a0 N n _ (L j) (FA_p_193.out.keep (keep_of_below b1)) uS (by have := HZ.out j hj; omega)).mono fun e w' h => ⟨(told h true ⟨fun _ => ⟨HF.out, has_adds_more (has_adds hj)⟩, fun _ => rfl⟩).1, bel_trans b1 (told h true ⟨fun _ => ⟨HF.out, has_adds_more (has_adds hj)⟩, fun _ => rfl⟩).2⟩
      have HM : Hid (∀ w1 j, j < p → Below u6.heap.size u6 w1 → Calls Try.prog 19 #[.agg #[.int .u64 a0, .int .i64 (N : Int), .slice Ap n cp], .string (M j)] w1 fun e w' => e = .returned (.bool true) ∧ Below u6.heap.size u6 w') := fun w1 j hj b1 =>
        (has_any w1 _ a0 N n _ (M j) (FA_p_193.out.keep (keep_of_below b1)) uS (by have := HY.out j hj; omega)).mono fun e w' h => ⟨(told h true ⟨fun _ => ⟨HF.out, has_adds hj⟩, fun _ => rfl⟩).1, bel_trans b1 (told h true ⟨fun _ => ⟨HF.out, has_adds hj⟩, fun _ => rfl⟩).2⟩
      go_loopg [64] 2 (fun gk i wr => Below u6.heap.size u6 wr ∧ ((gk = 2 ∧ i = .int .i64 0) ∨ (gk = 1 ∧ i = .int .i64 1) ∨ (gk = 0 ∧ i = .int .i64 2)))
      case atStart => exact ⟨Below.refl _ _, Or.inl ⟨rfl, rfl⟩⟩
      case round =>
        obtain ⟨hb, hk⟩ := hrel
        have HB : Hid (Below u6.heap.size u6 wr) := hb
        have d0 : wr.cell? ⟨gl, 0, none⟩ = some (.slice Al m capl) := (KB_ls_193.out.since hb).cell 0
        have d1 : wr.cell? ⟨gl, 1, none⟩ = some (.slice Ak p capm) := (KB_ls_193.out.since hb).cell 1
        clear hb
        rcases hk with ⟨rfl, rfl⟩ | ⟨rfl, rfl⟩ | ⟨rfl, rfl⟩
        · go_wp2_with fail
          go_loopg [70] m (fun gj j wj => ∃ k : Nat, (gj = m - k ∧ k ≤ m ∧ Below u6.heap.size u6 wj) ∧ j = .int .i64 (k : Int))
          case atStart => exact ⟨0, ⟨rfl, by omega, HB.out⟩, rfl⟩
          case round =>
            clear HB d0 d1
            obtain ⟨k, ⟨hg, hk, hb⟩, rfl⟩ := hrel
            have HK : Hid (gk = m - k ∧ Below u6.heap.size u6 wr) := ⟨hg, hb⟩
            by_cases hlt : k < m
            · obtain rfl := L3.out (by omega)
              have c1 := keep_of_below (bel_trans BEL193.out hb) _ _ (L4.out k hlt)
              have b1 : (k : Int) < (m : Int) := by omega
              have HC : Hid (Calls Try.prog 19 #[.agg #[.int .u64 a0, .int .i64 (N : Int), .slice Ap n cp], .string (L k)] wr fun e w' => e = .returned (.bool true) ∧ Below u6.heap.size u6 w') := HL.out _ k hlt hb
              have x0 : wr.cell? ⟨gp, 0, none⟩ = some (.int .u64 a0) := (KB_p_193.out.since hb).cell 0
              have x1 : wr.cell? ⟨gp, 1, none⟩ = some (.int .i64 (N : Int)) := (KB_p_193.out.since hb).cell 1
              have x2 : wr.cell? ⟨gp, 2, none⟩ = some (.slice Ap n cp) := (KB_p_193.out.since hb).cell 2
              generalize L k = s at c1 HC
              clear hg hb
              go_wp2_with fail
              refine HC.out.mono ?_
              rintro e q ⟨rfl, bq⟩
              have BQ : Hid (Below u6.heap.size u6 q) := bq
              clear bq HC c1 x0 x1 x2
              go_wp2_with fail
              go_roundg (m - (k + 1))
              case measure => have := HK.out.1; omega
              case rel => exact ⟨k + 1, ⟨rfl, by omega, BQ.out⟩, by go_num⟩
            · have b1 : ¬ (k : Int) < (m : Int) := by omega
              clear hg hb
              go_wp2_with fail
              go_roundg 1
              case measure => omega
              case rel => exact ⟨HK.out.2, Or.inr (Or.inl ⟨rfl, rfl⟩)⟩
        · go_wp2_with fail
          go_loopg [70] p (fun gj j wj => ∃ k : Nat, (gj = p - k ∧ k ≤ p ∧ Below u6.heap.size u6 wj) ∧ j = .int .i64 (k : Int))
          case atStart => exact ⟨0, ⟨rfl, by omega, HB.out⟩, rfl⟩
          case round =>
            clear HB d0 d1
            obtain ⟨k, ⟨hg, hk, hb⟩, rfl⟩ := hrel
            have HK : Hid (gk = p - k ∧ Below u6.heap.size u6 wr) := ⟨hg, hb⟩
            by_cases hlt : k < p
            · obtain rfl := M3.out (by omega)
              have c1 := keep_of_below (bel_trans BEL193.out hb) _ _ (M4.out k hlt)
              have b1 : (k : Int) < (p : Int) := by omega
              have HC : Hid (Calls Try.prog 19 #[.agg #[.int .u64 a0, .int .i64 (N : Int), .slice Ap n cp], .string (M k)] wr fun e w' => e = .returned (.bool true) ∧ Below u6.heap.size u6 w') := HM.out _ k hlt hb
              have x0 : wr.cell? ⟨gp, 0, none⟩ = some (.int .u64 a0) := (KB_p_193.out.since hb).cell 0
              have x1 : wr.cell? ⟨gp, 1, none⟩ = some (.int .i64 (N : Int)) := (KB_p_193.out.since hb).cell 1
              have x2 : wr.cell? ⟨gp, 2, none⟩ = some (.slice Ap n cp) := (KB_p_193.out.since hb).cell 2
              generalize M k = s at c1 HC
              clear hg hb
              go_wp2_with fail
              refine HC.out.mono ?_
              rintro e q ⟨rfl, bq⟩
              have BQ : Hid (Below u6.heap.size u6 q) := bq
              clear bq HC c1 x0 x1 x2
              go_wp2_with fail
              go_roundg (p - (k + 1))
              case measure => have := HK.out.1; omega
              case rel => exact ⟨k + 1, ⟨rfl, by omega, BQ.out⟩, by go_num⟩
            · have b1 : ¬ (k : Int) < (p : Int) := by omega
              clear hg hb
              go_wp2_with fail
              go_roundg 0
              case measure => omega
              case rel => exact ⟨HK.out.2, Or.inr (Or.inr ⟨rfl, rfl⟩)⟩
        · clear d0 d1 HL HM
          have BEL194 : Hid (Below w.heap.size w wr) := bel_trans BEL193.out HB.out
          have FA_p_194 : Hid (FilterAt wr (.agg #[.int .u64 a0, .int .i64 (N : Int), .slice Ap n cp]) a0 (N : Int) n (addsB a0 N n (addsB a0 N n (fun _ => false) L m) M p)) := FA_p_193.out.keep (keep_of_below HB.out)
          have FA_q_194 : Hid (FilterAt wr (.agg #[.int .u64 a0, .int .i64 (N : Int), .slice Aq n cq]) a0 (N : Int) n (addsB a0 N n (addsB a0 N n (fun _ => false) M p) L m)) := FA_q_193.out.keep (keep_of_below HB.out)
          have FA_m_194 : Hid (FilterAt wr (.agg #[.int .u64 a0, .int .i64 (N : Int), .slice Am n cm]) a0 (N : Int) n (fun i => (addsB a0 N n (fun _ => false) L m) i || (addsB a0 N n (fun _ => false) M p) i)) := FA_m_193.out.keep (keep_of_below HB.out)
          have KB_p_194 : Hid (Blk wr (gp) 25 #[.int .u64 a0, .int .i64 (N : Int), .slice Ap n cp]) := KB_p_193.out.since HB.out
          have KB_q_194 : Hid (Blk wr (gq) 25 #[.int .u64 a0, .int .i64 (N : Int), .slice Aq n cq]) := KB_q_193.out.since HB.out
          have KB_m_194 : Hid (Blk wr (gm) 25 #[.int .u64 a0, .int .i64 (N : Int), .slice Am n cm]) := KB_m_193.out.since HB.out
          have KB_ls_194 : Hid (Blk wr (gl) 48 #[.slice Al m capl, .slice Ak p capm]) := KB_ls_193.out.since HB.out
          clear BEL193 FA_p_193 FA_q_193 FA_m_193 KB_p_193 KB_q_193 KB_m_193 KB_ls_193
          clear HB
          have RP : Hid (∀ w1, Below wr.heap.size wr w1 → Calls Try.prog 11 #[.agg #[.int .u64 a0, .int .i64 (N : Int), .slice Ap n cp]] w1 fun e w' => e = .returned (.agg #[.int .u64 a0, .int .i64 (N : Int), .slice Ap n cp]) ∧ Below wr.heap.size wr w') := fun w1 b1 => (ref_any w1 _ a0 N n _ (FA_p_194.out.keep (keep_of_below b1))).mono fun e w' h => ⟨h.1, bel_trans b1 h.2⟩
          have RQ : Hid (∀ w1, Below wr.heap.size wr w1 → Calls Try.prog 11 #[.agg #[.int .u64 a0, .int .i64 (N : Int), .slice Aq n cq]] w1 fun e w' => e = .returned (.agg #[.int .u64 a0, .int .i64 (N : Int), .slice Aq n cq]) ∧ Below wr.heap.size wr w') := fun w1 b1 => (ref_any w1 _ a0 N n _ (FA_q_194.out.keep (keep_of_below b1))).mono fun e w' h => ⟨h.1, bel_trans b1 h.2⟩
          have RM : Hid (∀ w1, Below wr.heap.size wr w1 → Calls Try.prog 11 #[.agg #[.int .u64 a0, .int .i64 (N : Int), .slice Am n cm]] w1 fun e w' => e = .returned (.agg #[.int .u64 a0, .int .i64 (N : Int), .slice Am n cm]) ∧ Below wr.heap.size wr w') := fun w1 b1 => (ref_any w1 _ a0 N n _ (FA_m_194.out.keep (keep_of_below b1))).mono fun e w' h => ⟨h.1, bel_trans b1 h.2⟩
          have E1 : Hid (∀ w1, Below wr.heap.size wr w1 → Calls Try.prog 10 #[.agg #[.int .u64 a0, .int .i64 (N : Int), .slice Ap n cp], .agg #[.int .u64 a0, .int .i64 (N : Int), .slice Aq n cq]] w1 fun e w' => e = .returned (.bool true) ∧ Below wr.heap.size wr w') := fun w1 b1 => (requal_any w1 _ _ a0 N a0 N n n _ _ (FA_p_194.out.keep (keep_of_below b1)) (FA_q_194.out.keep (keep_of_below b1)) (by omega)).mono fun e w' h => ⟨(told h true ⟨fun _ => ⟨rfl, rfl, rfl, fun i hi => adds_turn _ _ _ _ _ _ _ _ _⟩, fun _ => rfl⟩).1, bel_trans b1 (told h true ⟨fun _ => ⟨rfl, rfl, rfl, fun i hi => adds_turn _ _ _ _ _ _ _ _ _⟩, fun _ => rfl⟩).2⟩
          have E2 : Hid (∀ w1, Below wr.heap.size wr w1 → Calls Try.prog 10 #[.agg #[.int .u64 a0, .int .i64 (N : Int), .slice Ap n cp], .agg #[.int .u64 a0, .int .i64 (N : Int), .slice Am n cm]] w1 fun e w' => e = .returned (.bool true) ∧ Below wr.heap.size wr w') := fun w1 b1 => (requal_any w1 _ _ a0 N a0 N n n _ _ (FA_p_194.out.keep (keep_of_below b1)) (FA_m_194.out.keep (keep_of_below b1)) (by omega)).mono fun e w' h => ⟨(told h true ⟨fun _ => ⟨rfl, rfl, rfl, fun i hi => adds_merge _ _ _ _ _ _ _ _ _⟩, fun _ => rfl⟩).1, bel_trans b1 (told h true ⟨fun _ => ⟨rfl, rfl, rfl, fun i hi => adds_merge _ _ _ _ _ _ _ _ _⟩, fun _ => rfl⟩).2⟩
          have WA : Hid (∀ w1, Below wr.heap.size wr w1 → Calls Try.prog 12 #[] w1 fun e w' => e = .returned (.bool true) ∧ Below wr.heap.size wr w') := fun w1 b1 => (awake_any w1).mono fun e w' h => ⟨h.1, bel_trans b1 h.2⟩
          have KS : Hid (∀ w' : World, Below wr.heap.size wr w' → (w'.cell? ⟨gp, 0, none⟩ = some (.int .u64 a0) ∧ w'.cell? ⟨gp, 1, none⟩ = some (.int .i64 (N : Int)) ∧ w'.cell? ⟨gp, 2, none⟩ = some (.slice Ap n cp) ∧ w'.cell? ⟨gq, 0, none⟩ = some (.int .u64 a0) ∧ w'.cell? ⟨gq, 1, none⟩ = some (.int .i64 (N : Int)) ∧ w'.cell? ⟨gq, 2, none⟩ = some (.slice Aq n cq) ∧ w'.cell? ⟨gm, 0, none⟩ = some (.int .u64 a0) ∧ w'.cell? ⟨gm, 1, none⟩ = some (.int .i64 (N : Int)) ∧ w'.cell? ⟨gm, 2, none⟩ = some (.slice Am n cm))) := fun w' b1 => ⟨(KB_p_194.out.since b1).cell 0, (KB_p_194.out.since b1).cell 1, (KB_p_194.out.since b1).cell 2, (KB_q_194.out.since b1).cell 0, (KB_q_194.out.since b1).cell 1, (KB_q_194.out.since b1).cell 2, (KB_m_194.out.since b1).cell 0, (KB_m_194.out.since b1).cell 1, (KB_m_194.out.since b1).cell 2⟩
          have Z0 : Hid (Below wr.heap.size wr wr.drew) := (Below.refl _ _).drew
          have CE_p_0 : wr.cell? ⟨gp, 0, none⟩ = some (.int .u64 a0) := KB_p_194.out.cell 0
          have CE_p_1 : wr.cell? ⟨gp, 1, none⟩ = some (.int .i64 (N : Int)) := KB_p_194.out.cell 1
          have CE_p_2 : wr.cell? ⟨gp, 2, none⟩ = some (.slice Ap n cp) := KB_p_194.out.cell 2
          have CE_p_lt : gp < wr.heap.size := KB_p_194.out.lt
          have CE_q_0 : wr.cell? ⟨gq, 0, none⟩ = some (.int .u64 a0) := KB_q_194.out.cell 0
          have CE_q_1 : wr.cell? ⟨gq, 1, none⟩ = some (.int .i64 (N : Int)) := KB_q_194.out.cell 1
          have CE_q_2 : wr.cell? ⟨gq, 2, none⟩ = some (.slice Aq n cq) := KB_q_194.out.cell 2
          have CE_q_lt : gq < wr.heap.size := KB_q_194.out.lt
          have CE_m_0 : wr.cell? ⟨gm, 0, none⟩ = some (.int .u64 a0) := KB_m_194.out.cell 0
          have CE_m_1 : wr.cell? ⟨gm, 1, none⟩ = some (.int .i64 (N : Int)) := KB_m_194.out.cell 1
          have CE_m_2 : wr.cell? ⟨gm, 2, none⟩ = some (.slice Am n cm) := KB_m_194.out.cell 2
          have CE_m_lt : gm < wr.heap.size := KB_m_194.out.lt
          clear FA_p_194 FA_q_194 FA_m_194
          go_wp2_with fail
          go_region_held3 (fun w' => w'.cell? ⟨gp, 0, none⟩ = some (.int .u64 a0) ∧ w'.cell? ⟨gp, 1, none⟩ = some (.int .i64 (N : Int)) ∧ w'.cell? ⟨gp, 2, none⟩ = some (.slice Ap n cp) ∧ w'.cell? ⟨gq, 0, none⟩ = some (.int .u64 a0) ∧ w'.cell? ⟨gq, 1, none⟩ = some (.int .i64 (N : Int)) ∧ w'.cell? ⟨gq, 2, none⟩ = some (.slice Aq n cq) ∧ w'.cell? ⟨gm, 0, none⟩ = some (.int .u64 a0) ∧ w'.cell? ⟨gm, 1, none⟩ = some (.int .i64 (N : Int)) ∧ w'.cell? ⟨gm, 2, none⟩ = some (.slice Am n cm)) (first | go_keep | exact KS.out _ Z7.out | exact KS.out _ Z6.out | exact KS.out _ Z5.out | exact KS.out _ Z4.out | exact KS.out _ Z3.out | exact KS.out _ Z2.out | exact KS.out _ Z1.out) (first
            | (have fl := Z6; clear fl; go_simp; go_at_call 12; refine (WA.out _ Z6.out).mono ?_; rintro e q7 ⟨rfl, cc⟩; have Z7 : Hid (Below wr.heap.size wr q7) := cc; clear cc)
            | (have fl := Z5; clear fl; go_simp; go_at_call 10; refine (E2.out _ Z5.out).mono ?_; rintro e q6 ⟨rfl, cc⟩; have Z6 : Hid (Below wr.heap.size wr q6) := cc; clear cc)
            | (have fl := Z4; clear fl; go_simp; go_at_call 11; refine (RM.out _ Z4.out).mono ?_; rintro e q5 ⟨rfl, cc⟩; have Z5 : Hid (Below wr.heap.size wr q5) := cc; clear cc)
            | (have fl := Z3; clear fl; go_simp; go_at_call 11; refine (RP.out _ Z3.out).mono ?_; rintro e q4 ⟨rfl, cc⟩; have Z4 : Hid (Below wr.heap.size wr q4) := cc; clear cc)
            | (have fl := Z2; clear fl; go_simp; go_at_call 10; refine (E1.out _ Z2.out).mono ?_; rintro e q3 ⟨rfl, cc⟩; have Z3 : Hid (Below wr.heap.size wr q3) := cc; clear cc)
            | (have fl := Z1; clear fl; go_simp; go_at_call 11; refine (RQ.out _ Z1.out).mono ?_; rintro e q2 ⟨rfl, cc⟩; have Z2 : Hid (Below wr.heap.size wr q2) := cc; clear cc)
            | (have fl := Z0; clear fl; go_simp; go_at_call 11; refine (RP.out _ Z0.out).mono ?_; rintro e q1 ⟨rfl, cc⟩; have Z1 : Hid (Below wr.heap.size wr q1) := cc; clear cc))
          all_goals go_wp2_with fail
          all_goals go_ret
          all_goals exact ⟨rfl, bel_trans BEL194.out Z7.out⟩

/-! ### The row -/
theorem laidOut : laidOutB Try.prog = true := by kernel_rfl
set_option maxRecDepth 100000 in
theorem lifted (os : Os) (started : os.Started) (H : Type) (enc : TypeId × Value → H) :
    ReturnsInHanded {} Try.checked os 6 .any (Rows.bloomKeepsSpec.pre6 enc Try.prog Try.f6 Rows.bloomKeepsRow.domain false) (Rows.bloomKeepsSpec.post enc Try.prog Try.f6 false true false false) := by
  refine returnsInHanded_of_change (C := Try.checked) own started (by kernel_rfl) Try.func6
    (ChangeSpec.witness6 (enc := enc) (C := Try.checked) false ⟨#[], #[.int .u64 0, .int .i64 0, .int .i64 0, .slice none 0 0, .slice none 0 0], []⟩ 8 (by kernel_rfl) (by kernel_rfl) (by kernel_rfl) (by kernel_rfl)) ?_
  intro W base args ds gs before hval0 hW hcnd _
  have hval : ∀ (j : Nat) t v, Try.f6.params[j]? = some t → args[j]? = some v → Value.okWide Try.prog W .any base t v := hval0
  have hW' := hW
  obtain ⟨p, q, hA0, hV, rfl, hfz, hnd⟩ := hW
  have hA : DataW.TrodAll enc Try.prog W 0 (fun _ => true) true Try.f6.params.toList args.toList ds p := hA0
  rw [Try.params6] at hA hval
  obtain ⟨v0, vs0, d0, ds0, p0, q0, hargs, rfl, rfl, h0, r0⟩ := trodAll_cons hA
  obtain ⟨v1, vs1, d1, ds1, p1, q1, rfl, rfl, rfl, h1, r1⟩ := trodAll_cons r0
  obtain ⟨v2, vs2, d2, ds2, p2, q2, rfl, rfl, rfl, h2, r2⟩ := trodAll_cons r1
  obtain ⟨v3, vs3, d3, ds3, p3, q3, rfl, rfl, rfl, h3, r3⟩ := trodAll_cons r2
  obtain ⟨v4, vs4, d4, ds4, p4, q4, rfl, rfl, rfl, h4, r4⟩ := trodAll_cons r3
  obtain ⟨rfl, rfl, rfl⟩ := trodAll_nil r4
  obtain rfl : args = #[v0, v1, v2, v3, v4] := by cases args; simp_all
  obtain ⟨rfl, rfl⟩ := trodVars_none hV
  obtain ⟨a0, rfl, rfl, rfl, w0⟩ := open_int Try.underlying22 (hval 0 22 v0 rfl rfl) h0
  obtain ⟨a1, rfl, rfl, rfl, w1⟩ := open_int Try.underlying3 (hval 1 3 v1 rfl rfl) h1
  obtain ⟨a2, rfl, rfl, rfl, w2⟩ := open_int Try.underlying3 (hval 2 3 v2 rfl rfl) h2
  have k3 := h3
  have lt3 : ∀ x ∈ p3, x.block < W.heap.size := by obtain ⟨m, hm⟩ := k3; exact DataW.trod_lt m _ _ _ hm
  obtain ⟨F3, w3⟩ := open_keys (hval 3 48 v3 rfl rfl) h3
  have k4 := h4
  have lt4 : ∀ x ∈ p4, x.block < W.heap.size := by obtain ⟨m, hm⟩ := k4; exact DataW.trod_lt m _ _ _ hm
  obtain ⟨F4, w4⟩ := open_keys (hval 4 48 v4 rfl rfl) h4
  clear hA0 hval0
  refine (walk a0 a1 a2 v3 F3 v4 F4 W w0 w1 w2 w3 w4).mono fun e W' ⟨he, bel⟩ => ?_
  subst he
  exact ⟨_, rfl, _, _, _, [], _, [], hW', trodAll_mk1 (shut_bool Try.underlying4 _), (trodAll_cons_mk (shut_int Try.underlying22 w0) (trodAll_cons_mk (shut_int Try.underlying3 w1) (trodAll_cons_mk (shut_int Try.underlying3 w2) (trodAll_cons_mk (Below.trod laidOut (by kernel_rfl) (of_decide_eq_true (by kernel_rfl)) k3 bel lt3) (trodAll_cons_mk (Below.trod laidOut (by kernel_rfl) (of_decide_eq_true (by kernel_rfl)) k4 bel lt4) trodAll_mk0))))), rfl, bel.frame _, fun h => by cases h⟩

theorem over : Rows.bloomKeepsRow.holds Try.pinned (OpenSpec.ofChange Rows.bloomKeepsSpec) :=
  OpenClaim.holds_of_wide 6 Try.f6 rfl rfl rfl rfl rfl rfl rfl ⟨rfl, rfl, rfl, rfl, rfl⟩ rfl rfl rfl rfl rfl (by kernel_rfl) Try.func6 (by kernel_rfl)
    (of_decide_eq_true (by kernel_rfl)) (by unfold Func.isWrapper; first | (rw [if_pos (by decide +kernel)]; kernel_rfl) | (rw [if_neg (by decide +kernel)]; exact ⟨rfl, rfl⟩))
    (fun os started H enc _ => lifted os started H enc)

theorem proved : Rows.BloomKeepsSaid := over
end Go.Proofs.Ytbnjicbmainopaa.bloomKeeps
namespace Go.Proofs.Ytbnjicbmainopaa
theorem bloomKeeps_holds : Rows.BloomKeepsSaid := bloomKeeps.proved
#print axioms bloomKeeps_holds
end Go.Proofs.Ytbnjicbmainopaa
