
/-
  Merge of the document (layer 12): what it answers.
-/
import Derived.Test.YtpjpgcjlbfgkdaaSgnRAdd
namespace Go.Proofs.Ytpjpgcjlbfgkdaa
open Go.RowKit Fm Bl Sg L2 Go.Deep
set_option linter.unusedVariables false

set_option maxRecDepth 8000 in
set_option maxHeartbeats 6400000 in
theorem hmerge_any (w : World) (x y : Value) (S : Int) (R n : Nat) (Z Y : Nat → Nat → Int) (h : SgAt w x S R (fun _ => n) Z) (h' : SgAt w y S R (fun _ => n) Y) (ok : OkG R n Z) (ok' : OkG R n Y) :
    Calls Try.prog 24 #[x, y] w (ToldG w S R n (mergeG Z Y)) := by
  obtain ⟨v, rfl, hv⟩ := h
  obtain ⟨v', rfl, hv'⟩ := h'
  have hR : R ≤ 7 := ok.2.1
  have n0 : 1 ≤ n := ok.2.2.2.1
  have n1 : n ≤ 256 := ok.2.2.2.2.1
  have OK : Hid (OkG R n Z ∧ OkG R n Y) := ⟨ok, ok'⟩
  obtain ⟨A, cap, b, o, rfl, hc, hr⟩ := hv.read
  obtain ⟨A', cap', b', o', rfl, hc', hr'⟩ := hv'.read
  have BX : Hid (Below w.heap.size w (((w.alloc (.cells #[.int .u64 S, .slice A R cap] 30)).alloc (.cells #[.int .u64 S, .slice A' R cap'] 30)).alloc (.cells #[.int .u64 0, .slice none 0 0] 30))) := ((bel_alloc _ _).alloc (by simp) _).alloc (by simp; omega) _
  have KX : Hid (Blk (((w.alloc (.cells #[.int .u64 S, .slice A R cap] 30)).alloc (.cells #[.int .u64 S, .slice A' R cap'] 30)).alloc (.cells #[.int .u64 0, .slice none 0 0] 30)) w.heap.size 30 #[.int .u64 S, .slice A R cap]) := ((Blk.new _ _ _).alloc _).alloc _
  have KY : Hid (Blk (((w.alloc (.cells #[.int .u64 S, .slice A R cap] 30)).alloc (.cells #[.int .u64 S, .slice A' R cap'] 30)).alloc (.cells #[.int .u64 0, .slice none 0 0] 30)) (w.heap.size + 1) 30 #[.int .u64 S, .slice A' R cap']) := by
    have e := (Blk.new (w.alloc (.cells #[.int .u64 S, .slice A R cap] 30)) 30 #[.int .u64 S, .slice A' R cap']).alloc (.cells #[.int .u64 0, .slice none 0 0] 30)
    simp only [World.size_alloc] at e
    exact e
  have KR : Hid (Blk (((w.alloc (.cells #[.int .u64 S, .slice A R cap] 30)).alloc (.cells #[.int .u64 S, .slice A' R cap'] 30)).alloc (.cells #[.int .u64 0, .slice none 0 0] 30)) (w.heap.size + 2) 30 #[.int .u64 0, .slice none 0 0]) := by
    have e := Blk.new ((w.alloc (.cells #[.int .u64 S, .slice A R cap] 30)).alloc (.cells #[.int .u64 S, .slice A' R cap'] 30)) 30 #[.int .u64 0, .slice none 0 0]
    simp only [World.size_alloc] at e
    exact e
  have RW : Hid (RowsCells w A R b o (fun _ => n) Z) := hr
  have RY : Hid (RowsCells w A' R b' o' (fun _ => n) Y) := hr'
  obtain ⟨i3, hi, hz0, hz1, hz2⟩ := info3'
  have HI : Hid (Try.prog.info? 3 = some i3 ∧ i3.zero = some (.int .i64 0) ∧ i3.size = 1 ∧ i3.bytes = 8) := ⟨hi, hz0, hz1, hz2⟩
  clear hi hz0 hz1 hz2
  obtain ⟨ir, ri, rz0, rz1, rz2⟩ := info33'
  have HR : Hid (Try.prog.info? 33 = some ir ∧ ir.zero = some (.slice none 0 0) ∧ ir.size = 1 ∧ ir.bytes = 24) := ⟨ri, rz0, rz1, rz2⟩
  clear ri rz0 rz1 rz2
  clear hv hr hv' hr' ok ok'
  go_enter Try.func24, Try.ntmps24
  go_wp2_with fail
  generalize (((w.alloc (.cells #[.int .u64 S, .slice A R cap] 30)).alloc (.cells #[.int .u64 S, .slice A' R cap'] 30)).alloc (.cells #[.int .u64 0, .slice none 0 0] 30)) = u0 at *
  have LS : Hid (w.heap.size + 2 < u0.heap.size) := KR.out.lt
  go_loopg [6, 7, 8] R (fun gk p l i wr => ∃ (k : Nat) (ao : Option Addr) (cv : Nat) (B : Bool), (gk = R - k ∧ k ≤ R ∧ (∃ V G, LinG u0 wr (.slice ao k cv) k n V G (mergeG Z Y)) ∧ SaysB B (RowsFit (mergeG Z Y) k n)) ∧ p = .bool B ∧ l = .slice ao k cv ∧ i = .int .i64 (k : Int))
  case atStart => exact ⟨0, none, 0, true, ⟨rfl, by omega, ⟨fun _ => .slice none 0 0, fun _ => 0, lin_start _ _ _ _ _⟩, saysB_start _ _⟩, rfl, rfl, rfl⟩
  case round =>
    obtain ⟨k, ao, cv, B0, ⟨hg, hk, ⟨V, G, hA⟩, hB⟩, rfl, rfl, rfl⟩ := hrel
    have HK : Hid (gk = R - k ∧ LinG u0 wr (.slice ao k cv) k n V G (mergeG Z Y) ∧ SaysB B0 (RowsFit (mergeG Z Y) k n)) := ⟨hg, hA, hB⟩
    have x2 : wr.cell? ⟨w.heap.size, 1, none⟩ = some (.slice A R cap) := (KX.out.since hA.since).cell 1
    by_cases hlt : k < R
    · obtain ⟨rfl, A2, cap2, b2, o2, d1, l2, f2, g2⟩ := RW.out k hlt
      obtain rfl := f2 (by show 0 < n; omega)
      obtain ⟨rfl, A3, cap3, b3, o3, d3, l3, f3, g3⟩ := RY.out k hlt
      obtain rfl := f3 (by show 0 < n; omega)
      have bk : (k : Int) < (R : Int) := by omega
      have b0 : (0 : Int) ≤ (k : Int) := by omega
      have D1 : Hid (w.cell? ⟨b, o + k, none⟩ = some (.slice (some ⟨b2, o2, none⟩) n cap2) ∧ w.cell? ⟨b', o' + k, none⟩ = some (.slice (some ⟨b3, o3, none⟩) n cap3)) := ⟨d1, d3⟩
      have D2 : Hid (∀ j, j < n → w.cell? ⟨b2, o2 + j, none⟩ = some (.int .i64 (Z k j)) ∧ w.cell? ⟨b3, o3 + j, none⟩ = some (.int .i64 (Y k j))) := fun j hj => ⟨g2 j hj, g3 j hj⟩
      have L5 : Hid (LinG u0 wr (.slice ao k cv) k n V G (mergeG Z Y)) := hA
      have B5 : Hid (Below w.heap.size w wr) := bel_trans BX.out hA.since
      have K5 : Hid (Blk wr w.heap.size 30 #[.int .u64 S, .slice (some ⟨b, o, none⟩) R cap] ∧ Blk wr (w.heap.size + 1) 30 #[.int .u64 S, .slice (some ⟨b', o', none⟩) R cap']) := ⟨KX.out.since hA.since, KY.out.since hA.since⟩
      clear hg hA hB l2 f2 g2 l3 f3 g3 d1 d3
      go_wp2_with fail
      clear x2
      have hw5 : ∃ w5 : World, w5 = wr := ⟨wr, rfl⟩
      obtain ⟨w5, h5⟩ := hw5
      rw [← h5] at L5 B5 K5 ⊢
      clear h5
      go_loopg [6, 9, 10] n (fun gj p r i wi => ∃ (c : Nat) (ao' : Option Addr) (cv' : Nat) (B : Bool), (gj = n - c ∧ c ≤ n ∧ GrowI w5 wi (.slice ao' c cv') c ((mergeG Z Y) k) ∧ SaysB B (RowsFit (mergeG Z Y) k n ∧ RowFit (mergeG Z Y) k c)) ∧ p = .bool B ∧ r = .slice ao' c cv' ∧ i = .int .i64 (c : Int))
      case atStart => exact ⟨0, none, 0, B0, ⟨rfl, by omega, growI_start _ _, saysB_in HK.out.2.2⟩, rfl, rfl, rfl⟩
      case round =>
        obtain ⟨c, ai, ci, B, ⟨hg, hc2, hI, hB⟩, rfl, rfl, rfl⟩ := hrel
        have HJ : Hid (gk = n - c ∧ GrowI w5 wr (.slice ai c ci) c ((mergeG Z Y) k) ∧ SaysB B (RowsFit (mergeG Z Y) k n ∧ RowFit (mergeG Z Y) k c)) := ⟨hg, hI, hB⟩
        have x2 : wr.cell? ⟨w.heap.size, 1, none⟩ = some (.slice (some ⟨b, o, none⟩) R cap) := (K5.out.1.since hI.since).cell 1
        have y2 : wr.cell? ⟨w.heap.size + 1, 1, none⟩ = some (.slice (some ⟨b', o', none⟩) R cap') := (K5.out.2.since hI.since).cell 1
        have ck : wr.cell? ⟨b, o + k, none⟩ = some (.slice (some ⟨b2, o2, none⟩) n cap2) := keep_of_below (bel_trans B5.out hI.since) _ _ D1.out.1
        have dk : wr.cell? ⟨b', o' + k, none⟩ = some (.slice (some ⟨b3, o3, none⟩) n cap3) := keep_of_below (bel_trans B5.out hI.since) _ _ D1.out.2
        by_cases hcl : c < n
        · have bc : (c : Int) < (n : Int) := by omega
          have bc0 : (0 : Int) ≤ (c : Int) := by omega
          obtain ⟨z, hz⟩ : ∃ z, z = Z k c := ⟨_, rfl⟩
          obtain ⟨y, hy⟩ : ∃ y, y = Y k c := ⟨_, rfl⟩
          have CD : Hid ((w.cell? ⟨b2, o2 + c, none⟩ = some (.int .i64 z)) ∧ w.cell? ⟨b3, o3 + c, none⟩ = some (.int .i64 y)) := ⟨by rw [hz]; exact (D2.out c hcl).1, by rw [hy]; exact (D2.out c hcl).2⟩
          have cc : wr.cell? ⟨b2, o2 + c, none⟩ = some (.int .i64 z) := keep_of_below (bel_trans B5.out hI.since) _ _ CD.out.1
          have dc : wr.cell? ⟨b3, o3 + c, none⟩ = some (.int .i64 y) := keep_of_below (bel_trans B5.out hI.since) _ _ CD.out.2
          have zr := OK.out.1.fits hlt hcl
          have yr := OK.out.2.fits hlt hcl
          rw [← hz] at zr
          rw [← hy] at yr
          obtain ⟨zr0, zr1⟩ := zr
          obtain ⟨yr0, yr1⟩ := yr
          have EV : Hid (z + y = (mergeG Z Y) k c) := by rw [hz, hy]; exact rfl
          have hwz : IntKind.i64.wrap (z + y) = z + y := by rw [IntKind.wrap_i64]; omega
          clear hg hI hB hz hy
          cases B with
          | true =>
            have SB : Hid (SaysB (fitsB1 (z + y)) (RowsFit (mergeG Z Y) k n ∧ RowFit (mergeG Z Y) k (c + 1))) := saysB_yes HJ.out.2.2 EV.out
            go_wp2_with fail
            go_quiet ((go_at_call 21; exact Calls.quiet_of_same (hfits_any _ _)))
            generalize fitsB1 (z + y) = BB at SB ⊢
            have GQ : Hid (GrowI w5 (wr.drewN nq) (.slice ai c ci) c ((mergeG Z Y) k)) := HJ.out.2.1.keep (below_drewN (Below.refl _ _) nq)
            clear x2 y2 ck dk cc dc
            generalize wr.drewN nq = wv at GQ ⊢
            have OD : Hid (GrowI w5 wv.drew (.slice ai c ci) c ((mergeG Z Y) k)) := GQ.out.drew
            have BD : Hid (Below w.heap.size w wv.drew) := bel_trans B5.out OD.out.since
            have KD : Hid (Blk wv.drew w.heap.size 30 #[.int .u64 S, .slice (some ⟨b, o, none⟩) R cap] ∧ Blk wv.drew (w.heap.size + 1) 30 #[.int .u64 S, .slice (some ⟨b', o', none⟩) R cap']) := ⟨K5.out.1.since OD.out.since, K5.out.2.since OD.out.since⟩
            clear GQ
            go_wp2_with fail
            refine wp_region_noPanic ?_
            refine wp_region_held_drew (S := (fun w' => Below w.heap.size w w' ∧ Blk w' w.heap.size 30 #[.int .u64 S, .slice (some ⟨b, o, none⟩) R cap] ∧ Blk w' (w.heap.size + 1) 30 #[.int .u64 S, .slice (some ⟨b', o', none⟩) R cap'])) (by kernel_rfl) ⟨BD.out, KD.out.1, KD.out.2⟩ (fun hHeld => ?_)
            clear hHeld
            generalize wv.drew = v0 at BD KD OD ⊢
            refine wpAnyH_take (i := 0) (v := ?_) rfl (by kernel_rfl) (by kernel_rfl) (by kernel_rfl) (fun _ _ _ h => h) (Or.inl ⟨by rfl, ?_⟩) ⟨BD.out, KD.out.1, KD.out.2⟩ ?_
            rotate_left
            · intro wq hSw; go_simp; first | done | with_reducible rfl
            simp only [List.getElem_toArray, List.getElem_cons_zero, Act.put, List.setIfInBounds_toArray, List.set_cons_zero, List.set_cons_succ]
            refine wpAnyH_take (i := 1) (v := ?_) rfl (by kernel_rfl) (by kernel_rfl) (by kernel_rfl) (fun _ _ _ h => h) (Or.inl ⟨by rfl, ?_⟩) ⟨BD.out, KD.out.1, KD.out.2⟩ ?_
            rotate_left
            · intro wq hSw; go_simp; first | done | with_reducible rfl
            simp only [List.getElem_toArray, List.getElem_cons_zero, List.getElem_cons_succ, Act.put, List.setIfInBounds_toArray, List.set_cons_zero, List.set_cons_succ]
            refine wpAnyH_take (i := 2) (v := ?_) rfl (by kernel_rfl) (by kernel_rfl) (by kernel_rfl) (fun _ _ _ h => h) (Or.inl ⟨by rfl, ?_⟩) ⟨BD.out, KD.out.1, KD.out.2⟩ ?_
            rotate_left
            · intro wq hSw; have cl0 := hSw.2.1.cell 1; go_simp; first | done | with_reducible rfl
            simp only [List.getElem_toArray, List.getElem_cons_zero, List.getElem_cons_succ, Act.put, List.setIfInBounds_toArray, List.set_cons_zero, List.set_cons_succ]
            refine wpAnyH_take (i := 3) (v := ?_) rfl (by kernel_rfl) (by kernel_rfl) (by kernel_rfl) (fun _ _ _ h => h) (Or.inl ⟨by rfl, ?_⟩) ⟨BD.out, KD.out.1, KD.out.2⟩ ?_
            rotate_left
            · intro wq hSw; go_simp; first | done | with_reducible rfl
            simp only [List.getElem_toArray, List.getElem_cons_zero, List.getElem_cons_succ, Act.put, List.setIfInBounds_toArray, List.set_cons_zero, List.set_cons_succ]
            refine wpAnyH_take (i := 4) (v := ?_) rfl (by kernel_rfl) (by kernel_rfl) (by kernel_rfl) (fun _ _ _ h => h) (Or.inl ⟨by rfl, ?_⟩) ⟨BD.out, KD.out.1, KD.out.2⟩ ?_
            rotate_left
            · intro wq hSw; go_simp; first | done | with_reducible rfl
            simp only [List.getElem_toArray, List.getElem_cons_zero, List.getElem_cons_succ, Act.put, List.setIfInBounds_toArray, List.set_cons_zero, List.set_cons_succ]
            refine wpAnyH_take (i := 5) (v := ?_) rfl (by kernel_rfl) (by kernel_rfl) (by kernel_rfl) (fun _ _ _ h => h) (Or.inl ⟨by rfl, ?_⟩) ⟨BD.out, KD.out.1, KD.out.2⟩ ?_
            rotate_left
            · intro wq hSw; have cl0 := keep_of_below hSw.1 _ _ D1.out.1; go_simp; first | done | with_reducible rfl
            simp only [List.getElem_toArray, List.getElem_cons_zero, List.getElem_cons_succ, Act.put, List.setIfInBounds_toArray, List.set_cons_zero, List.set_cons_succ]
            refine wpAnyH_take (i := 6) (v := ?_) rfl (by kernel_rfl) (by kernel_rfl) (by kernel_rfl) (fun _ _ _ h => h) (Or.inl ⟨by rfl, ?_⟩) ⟨BD.out, KD.out.1, KD.out.2⟩ ?_
            rotate_left
            · intro wq hSw; go_simp; first | done | with_reducible rfl
            simp only [List.getElem_toArray, List.getElem_cons_zero, List.getElem_cons_succ, Act.put, List.setIfInBounds_toArray, List.set_cons_zero, List.set_cons_succ]
            refine wpAnyH_take (i := 7) (v := ?_) rfl (by kernel_rfl) (by kernel_rfl) (by kernel_rfl) (fun _ _ _ h => h) (Or.inl ⟨by rfl, ?_⟩) ⟨BD.out, KD.out.1, KD.out.2⟩ ?_
            rotate_left
            · intro wq hSw; go_simp; first | done | with_reducible rfl
            simp only [List.getElem_toArray, List.getElem_cons_zero, List.getElem_cons_succ, Act.put, List.setIfInBounds_toArray, List.set_cons_zero, List.set_cons_succ]
            refine wpAnyH_take (i := 8) (v := ?_) rfl (by kernel_rfl) (by kernel_rfl) (by kernel_rfl) (fun _ _ _ h => h) (Or.inl ⟨by rfl, ?_⟩) ⟨BD.out, KD.out.1, KD.out.2⟩ ?_
            rotate_left
            · intro wq hSw; have cl0 := keep_of_below hSw.1 _ _ CD.out.1; go_simp; first | done | with_reducible rfl
            simp only [List.getElem_toArray, List.getElem_cons_zero, List.getElem_cons_succ, Act.put, List.setIfInBounds_toArray, List.set_cons_zero, List.set_cons_succ]
            refine wpAnyH_take (i := 9) (v := ?_) rfl (by kernel_rfl) (by kernel_rfl) (by kernel_rfl) (fun _ _ _ h => h) (Or.inl ⟨by rfl, ?_⟩) ⟨BD.out, KD.out.1, KD.out.2⟩ ?_
            rotate_left
            · intro wq hSw; go_simp; first | done | with_reducible rfl
            simp only [List.getElem_toArray, List.getElem_cons_zero, List.getElem_cons_succ, Act.put, List.setIfInBounds_toArray, List.set_cons_zero, List.set_cons_succ]
            refine wpAnyH_take (i := 10) (v := ?_) rfl (by kernel_rfl) (by kernel_rfl) (by kernel_rfl) (fun _ _ _ h => h) (Or.inl ⟨by rfl, ?_⟩) ⟨BD.out, KD.out.1, KD.out.2⟩ ?_
            rotate_left
            · intro wq hSw; have cl0 := hSw.2.2.cell 1; go_simp; first | done | with_reducible rfl
            simp only [List.getElem_toArray, List.getElem_cons_zero, List.getElem_cons_succ, Act.put, List.setIfInBounds_toArray, List.set_cons_zero, List.set_cons_succ]
            refine wpAnyH_take (i := 11) (v := ?_) rfl (by kernel_rfl) (by kernel_rfl) (by kernel_rfl) (fun _ _ _ h => h) (Or.inl ⟨by rfl, ?_⟩) ⟨BD.out, KD.out.1, KD.out.2⟩ ?_
            rotate_left
            · intro wq hSw; go_simp; first | done | with_reducible rfl
            simp only [List.getElem_toArray, List.getElem_cons_zero, List.getElem_cons_succ, Act.put, List.setIfInBounds_toArray, List.set_cons_zero, List.set_cons_succ]
            refine wpAnyH_take (i := 12) (v := ?_) rfl (by kernel_rfl) (by kernel_rfl) (by kernel_rfl) (fun _ _ _ h => h) (Or.inl ⟨by rfl, ?_⟩) ⟨BD.out, KD.out.1, KD.out.2⟩ ?_
            rotate_left
            · intro wq hSw; go_simp; first | done | with_reducible rfl
            simp only [List.getElem_toArray, List.getElem_cons_zero, List.getElem_cons_succ, Act.put, List.setIfInBounds_toArray, List.set_cons_zero, List.set_cons_succ]
            refine wpAnyH_take (i := 13) (v := ?_) rfl (by kernel_rfl) (by kernel_rfl) (by kernel_rfl) (fun _ _ _ h => h) (Or.inl ⟨by rfl, ?_⟩) ⟨BD.out, KD.out.1, KD.out.2⟩ ?_
            rotate_left
            · intro wq hSw; have cl0 := keep_of_below hSw.1 _ _ D1.out.2; go_simp; first | done | with_reducible rfl
            simp only [List.getElem_toArray, List.getElem_cons_zero, List.getElem_cons_succ, Act.put, List.setIfInBounds_toArray, List.set_cons_zero, List.set_cons_succ]
            refine wpAnyH_take (i := 14) (v := ?_) rfl (by kernel_rfl) (by kernel_rfl) (by kernel_rfl) (fun _ _ _ h => h) (Or.inl ⟨by rfl, ?_⟩) ⟨BD.out, KD.out.1, KD.out.2⟩ ?_
            rotate_left
            · intro wq hSw; go_simp; first | done | with_reducible rfl
            simp only [List.getElem_toArray, List.getElem_cons_zero, List.getElem_cons_succ, Act.put, List.setIfInBounds_toArray, List.set_cons_zero, List.set_cons_succ]
            refine wpAnyH_take (i := 15) (v := ?_) rfl (by kernel_rfl) (by kernel_rfl) (by kernel_rfl) (fun _ _ _ h => h) (Or.inl ⟨by rfl, ?_⟩) ⟨BD.out, KD.out.1, KD.out.2⟩ ?_
            rotate_left
            · intro wq hSw; go_simp; first | done | with_reducible rfl
            simp only [List.getElem_toArray, List.getElem_cons_zero, List.getElem_cons_succ, Act.put, List.setIfInBounds_toArray, List.set_cons_zero, List.set_cons_succ]
            refine wpAnyH_take (i := 16) (v := ?_) rfl (by kernel_rfl) (by kernel_rfl) (by kernel_rfl) (fun _ _ _ h => h) (Or.inl ⟨by rfl, ?_⟩) ⟨BD.out, KD.out.1, KD.out.2⟩ ?_
            rotate_left
            · intro wq hSw; have cl0 := keep_of_below hSw.1 _ _ CD.out.2; go_simp; first | done | with_reducible rfl
            simp only [List.getElem_toArray, List.getElem_cons_zero, List.getElem_cons_succ, Act.put, List.setIfInBounds_toArray, List.set_cons_zero, List.set_cons_succ]
            refine wpAnyH_take (i := 17) (v := ?_) rfl (by kernel_rfl) (by kernel_rfl) (by kernel_rfl) (fun _ _ _ h => h) (Or.inl ⟨by rfl, ?_⟩) ⟨BD.out, KD.out.1, KD.out.2⟩ ?_
            rotate_left
            · intro wq hSw; go_simp; first | done | with_reducible rfl
            simp only [List.getElem_toArray, List.getElem_cons_zero, List.getElem_cons_succ, Act.put, List.setIfInBounds_toArray, List.set_cons_zero, List.set_cons_succ]
            refine wpAnyH_ready (rs := [18]) (by kernel_rfl) (by simp) ?_
            refine AllReadyH.cons rfl (fun K0 hK0 => ?_) ?_
            rotate_left
            · exact AllReadyH.nil
            have nb := new_int v0 (.int .i64 (z + y))
            have ow := OD.out.own.alloc (.cells #[.int .i64 (z + y)] 3)
            have bw : Below w5.heap.size w5 (v0.alloc (.cells #[.int .i64 (z + y)] 3)) := OD.out.since.alloc OD.out.since.size _
            have bd := BD.out.alloc BD.out.size (.cells #[.int .i64 (z + y)] 3)
            have kd : Blk (v0.alloc (.cells #[.int .i64 (z + y)] 3)) w.heap.size 30 #[.int .u64 S, .slice (some ⟨b, o, none⟩) R cap] ∧ Blk (v0.alloc (.cells #[.int .i64 (z + y)] 3)) (w.heap.size + 1) 30 #[.int .u64 S, .slice (some ⟨b', o', none⟩) R cap'] := ⟨KD.out.1.alloc _, KD.out.2.alloc _⟩
            have sz := OD.out.since.size
            go_simp
            generalize hv1 : v0.alloc (.cells #[.int .i64 (z + y)] 3) = v1 at nb ow bw bd kd ⊢
            generalize v0.heap.size = g1 at nb sz ⊢
            have NB : Hid (∀ (j : Nat) (u : Value), [Value.int .i64 (z + y)][j]? = some u → v1.cell? ((⟨g1, 0, none⟩ : Addr).add j) = some u) := nb
            have OW : Hid (v1.ownsRow w5.heap.size 3 1 (.slice ai c ci) c (cellsI c ((mergeG Z Y) k))) := ow
            have BW : Hid (Below w5.heap.size w5 v1) := bw
            have BD2 : Hid (Below w.heap.size w v1) := bd
            have KD2 : Hid (Blk v1 w.heap.size 30 #[.int .u64 S, .slice (some ⟨b, o, none⟩) R cap] ∧ Blk v1 (w.heap.size + 1) 30 #[.int .u64 S, .slice (some ⟨b', o', none⟩) R cap']) := kd
            have sz1 : w5.heap.size ≤ v1.heap.size := bw.size
            clear nb ow bw bd kd hv1 sz
            refine hK0.out _ _ (by exact ⟨BD2.out, KD2.out.1, KD2.out.2⟩) (fun hHeld => ?_)
            clear hK0 K0 hHeld
            refine wpAnyH_ready (rs := [19]) (by kernel_rfl) (by simp) ?_
            refine AllReadyH.cons rfl (fun K0 hK0 => ?_) ?_
            rotate_left
            · exact AllReadyH.nil
            refine step_append_lies _ rfl (.tmp 49) (.tmp 67) 33 rfl w5.heap.size 3 i3 (.int .i64 0) 1 8 Try.underlying33 HI.out.1 HI.out.2.1 HI.out.2.2.1 HI.out.2.2.2 rfl (by omega) (.slice ai c ci) c (cellsI c ((mergeG Z Y) k)) (by simp [Act.eval]) OW.out ⟨g1, 0, none⟩ 1 1 [.int .i64 (z + y)] (by simp [Act.eval]) rfl NB.out (one_i64 _) (by omega) (by unfold maxLen; omega) (by omega) (by omega) v1.heap.size rfl ?_
            intro g2 cap2 v2 hown hgrow hat hlt2
            have bn : Below w5.heap.size w5 v2 := BW.out.grown hgrow (by omega) fun q e => (OW.out.lt q e).1
            have GN : Hid (GrowI w5 v2 (.slice (some ⟨g2, 0, none⟩) (c + 1) cap2) (c + 1) ((mergeG Z Y) k)) := ⟨by rw [← cellsI_succ, ← EV.out]; exact hown, bn⟩
            have BD3 : Hid (Below w.heap.size w v2) := bel_trans B5.out bn
            have KD3 : Hid (Blk v2 w.heap.size 30 #[.int .u64 S, .slice (some ⟨b, o, none⟩) R cap] ∧ Blk v2 (w.heap.size + 1) 30 #[.int .u64 S, .slice (some ⟨b', o', none⟩) R cap']) := ⟨K5.out.1.since bn, K5.out.2.since bn⟩
            clear hown hgrow hat hlt2 bn
            refine hK0.out _ _ (by exact ⟨BD3.out, KD3.out.1, KD3.out.2⟩) (fun hHeld => ?_)
            clear hK0 K0 hHeld
            refine wpAnyH_ready (rs := [20]) (by kernel_rfl) (by simp) ?_
            refine AllReadyH.cons rfl (fun K0 hK0 => ?_) ?_
            rotate_left
            · exact AllReadyH.nil
            go_simp
            refine hK0.out _ _ (by exact ⟨BD3.out, KD3.out.1, KD3.out.2⟩) (fun hHeld => ?_)
            clear hK0 K0 hHeld
            refine wpAnyH_done (by kernel_rfl) ?_ _
            refine NoPanic.normal ?_
            go_wp2_with fail
            go_roundg (n - (c + 1))
            case measure => have := HJ.out.1; omega
            case rel => exact ⟨c + 1, _, _, BB, ⟨rfl, by omega, GN.out, SB.out⟩, rfl, rfl, by go_num⟩
          | false =>
            have SB : Hid (SaysB false (RowsFit (mergeG Z Y) k n ∧ RowFit (mergeG Z Y) k (c + 1))) := saysB_no HJ.out.2.2
            go_wp2_with fail
            go_quiet (fail)
            have GQ : Hid (GrowI w5 (wr.drewN nq) (.slice ai c ci) c ((mergeG Z Y) k)) := HJ.out.2.1.keep (below_drewN (Below.refl _ _) nq)
            clear x2 y2 ck dk cc dc
            generalize wr.drewN nq = wv at GQ ⊢
            have OD : Hid (GrowI w5 wv.drew (.slice ai c ci) c ((mergeG Z Y) k)) := GQ.out.drew
            have BD : Hid (Below w.heap.size w wv.drew) := bel_trans B5.out OD.out.since
            have KD : Hid (Blk wv.drew w.heap.size 30 #[.int .u64 S, .slice (some ⟨b, o, none⟩) R cap] ∧ Blk wv.drew (w.heap.size + 1) 30 #[.int .u64 S, .slice (some ⟨b', o', none⟩) R cap']) := ⟨K5.out.1.since OD.out.since, K5.out.2.since OD.out.since⟩
            clear GQ
            go_wp2_with fail
            refine wp_region_noPanic ?_
            refine wp_region_held_drew (S := (fun w' => Below w.heap.size w w' ∧ Blk w' w.heap.size 30 #[.int .u64 S, .slice (some ⟨b, o, none⟩) R cap] ∧ Blk w' (w.heap.size + 1) 30 #[.int .u64 S, .slice (some ⟨b', o', none⟩) R cap'])) (by kernel_rfl) ⟨BD.out, KD.out.1, KD.out.2⟩ (fun hHeld => ?_)
            clear hHeld
            generalize wv.drew = v0 at BD KD OD ⊢
            refine wpAnyH_take (i := 0) (v := ?_) rfl (by kernel_rfl) (by kernel_rfl) (by kernel_rfl) (fun _ _ _ h => h) (Or.inl ⟨by rfl, ?_⟩) ⟨BD.out, KD.out.1, KD.out.2⟩ ?_
            rotate_left
            · intro wq hSw; go_simp; first | done | with_reducible rfl
            simp only [List.getElem_toArray, List.getElem_cons_zero, Act.put, List.setIfInBounds_toArray, List.set_cons_zero, List.set_cons_succ]
            refine wpAnyH_take (i := 1) (v := ?_) rfl (by kernel_rfl) (by kernel_rfl) (by kernel_rfl) (fun _ _ _ h => h) (Or.inl ⟨by rfl, ?_⟩) ⟨BD.out, KD.out.1, KD.out.2⟩ ?_
            rotate_left
            · intro wq hSw; go_simp; first | done | with_reducible rfl
            simp only [List.getElem_toArray, List.getElem_cons_zero, List.getElem_cons_succ, Act.put, List.setIfInBounds_toArray, List.set_cons_zero, List.set_cons_succ]
            refine wpAnyH_take (i := 2) (v := ?_) rfl (by kernel_rfl) (by kernel_rfl) (by kernel_rfl) (fun _ _ _ h => h) (Or.inl ⟨by rfl, ?_⟩) ⟨BD.out, KD.out.1, KD.out.2⟩ ?_
            rotate_left
            · intro wq hSw; have cl0 := hSw.2.1.cell 1; go_simp; first | done | with_reducible rfl
            simp only [List.getElem_toArray, List.getElem_cons_zero, List.getElem_cons_succ, Act.put, List.setIfInBounds_toArray, List.set_cons_zero, List.set_cons_succ]
            refine wpAnyH_take (i := 3) (v := ?_) rfl (by kernel_rfl) (by kernel_rfl) (by kernel_rfl) (fun _ _ _ h => h) (Or.inl ⟨by rfl, ?_⟩) ⟨BD.out, KD.out.1, KD.out.2⟩ ?_
            rotate_left
            · intro wq hSw; go_simp; first | done | with_reducible rfl
            simp only [List.getElem_toArray, List.getElem_cons_zero, List.getElem_cons_succ, Act.put, List.setIfInBounds_toArray, List.set_cons_zero, List.set_cons_succ]
            refine wpAnyH_take (i := 4) (v := ?_) rfl (by kernel_rfl) (by kernel_rfl) (by kernel_rfl) (fun _ _ _ h => h) (Or.inl ⟨by rfl, ?_⟩) ⟨BD.out, KD.out.1, KD.out.2⟩ ?_
            rotate_left
            · intro wq hSw; go_simp; first | done | with_reducible rfl
            simp only [List.getElem_toArray, List.getElem_cons_zero, List.getElem_cons_succ, Act.put, List.setIfInBounds_toArray, List.set_cons_zero, List.set_cons_succ]
            refine wpAnyH_take (i := 5) (v := ?_) rfl (by kernel_rfl) (by kernel_rfl) (by kernel_rfl) (fun _ _ _ h => h) (Or.inl ⟨by rfl, ?_⟩) ⟨BD.out, KD.out.1, KD.out.2⟩ ?_
            rotate_left
            · intro wq hSw; have cl0 := keep_of_below hSw.1 _ _ D1.out.1; go_simp; first | done | with_reducible rfl
            simp only [List.getElem_toArray, List.getElem_cons_zero, List.getElem_cons_succ, Act.put, List.setIfInBounds_toArray, List.set_cons_zero, List.set_cons_succ]
            refine wpAnyH_take (i := 6) (v := ?_) rfl (by kernel_rfl) (by kernel_rfl) (by kernel_rfl) (fun _ _ _ h => h) (Or.inl ⟨by rfl, ?_⟩) ⟨BD.out, KD.out.1, KD.out.2⟩ ?_
            rotate_left
            · intro wq hSw; go_simp; first | done | with_reducible rfl
            simp only [List.getElem_toArray, List.getElem_cons_zero, List.getElem_cons_succ, Act.put, List.setIfInBounds_toArray, List.set_cons_zero, List.set_cons_succ]
            refine wpAnyH_take (i := 7) (v := ?_) rfl (by kernel_rfl) (by kernel_rfl) (by kernel_rfl) (fun _ _ _ h => h) (Or.inl ⟨by rfl, ?_⟩) ⟨BD.out, KD.out.1, KD.out.2⟩ ?_
            rotate_left
            · intro wq hSw; go_simp; first | done | with_reducible rfl
            simp only [List.getElem_toArray, List.getElem_cons_zero, List.getElem_cons_succ, Act.put, List.setIfInBounds_toArray, List.set_cons_zero, List.set_cons_succ]
            refine wpAnyH_take (i := 8) (v := ?_) rfl (by kernel_rfl) (by kernel_rfl) (by kernel_rfl) (fun _ _ _ h => h) (Or.inl ⟨by rfl, ?_⟩) ⟨BD.out, KD.out.1, KD.out.2⟩ ?_
            rotate_left
            · intro wq hSw; have cl0 := keep_of_below hSw.1 _ _ CD.out.1; go_simp; first | done | with_reducible rfl
            simp only [List.getElem_toArray, List.getElem_cons_zero, List.getElem_cons_succ, Act.put, List.setIfInBounds_toArray, List.set_cons_zero, List.set_cons_succ]
            refine wpAnyH_take (i := 9) (v := ?_) rfl (by kernel_rfl) (by kernel_rfl) (by kernel_rfl) (fun _ _ _ h => h) (Or.inl ⟨by rfl, ?_⟩) ⟨BD.out, KD.out.1, KD.out.2⟩ ?_
            rotate_left
            · intro wq hSw; go_simp; first | done | with_reducible rfl
            simp only [List.getElem_toArray, List.getElem_cons_zero, List.getElem_cons_succ, Act.put, List.setIfInBounds_toArray, List.set_cons_zero, List.set_cons_succ]
            refine wpAnyH_take (i := 10) (v := ?_) rfl (by kernel_rfl) (by kernel_rfl) (by kernel_rfl) (fun _ _ _ h => h) (Or.inl ⟨by rfl, ?_⟩) ⟨BD.out, KD.out.1, KD.out.2⟩ ?_
            rotate_left
            · intro wq hSw; have cl0 := hSw.2.2.cell 1; go_simp; first | done | with_reducible rfl
            simp only [List.getElem_toArray, List.getElem_cons_zero, List.getElem_cons_succ, Act.put, List.setIfInBounds_toArray, List.set_cons_zero, List.set_cons_succ]
            refine wpAnyH_take (i := 11) (v := ?_) rfl (by kernel_rfl) (by kernel_rfl) (by kernel_rfl) (fun _ _ _ h => h) (Or.inl ⟨by rfl, ?_⟩) ⟨BD.out, KD.out.1, KD.out.2⟩ ?_
            rotate_left
            · intro wq hSw; go_simp; first | done | with_reducible rfl
            simp only [List.getElem_toArray, List.getElem_cons_zero, List.getElem_cons_succ, Act.put, List.setIfInBounds_toArray, List.set_cons_zero, List.set_cons_succ]
            refine wpAnyH_take (i := 12) (v := ?_) rfl (by kernel_rfl) (by kernel_rfl) (by kernel_rfl) (fun _ _ _ h => h) (Or.inl ⟨by rfl, ?_⟩) ⟨BD.out, KD.out.1, KD.out.2⟩ ?_
            rotate_left
            · intro wq hSw; go_simp; first | done | with_reducible rfl
            simp only [List.getElem_toArray, List.getElem_cons_zero, List.getElem_cons_succ, Act.put, List.setIfInBounds_toArray, List.set_cons_zero, List.set_cons_succ]
            refine wpAnyH_take (i := 13) (v := ?_) rfl (by kernel_rfl) (by kernel_rfl) (by kernel_rfl) (fun _ _ _ h => h) (Or.inl ⟨by rfl, ?_⟩) ⟨BD.out, KD.out.1, KD.out.2⟩ ?_
            rotate_left
            · intro wq hSw; have cl0 := keep_of_below hSw.1 _ _ D1.out.2; go_simp; first | done | with_reducible rfl
            simp only [List.getElem_toArray, List.getElem_cons_zero, List.getElem_cons_succ, Act.put, List.setIfInBounds_toArray, List.set_cons_zero, List.set_cons_succ]
            refine wpAnyH_take (i := 14) (v := ?_) rfl (by kernel_rfl) (by kernel_rfl) (by kernel_rfl) (fun _ _ _ h => h) (Or.inl ⟨by rfl, ?_⟩) ⟨BD.out, KD.out.1, KD.out.2⟩ ?_
            rotate_left
            · intro wq hSw; go_simp; first | done | with_reducible rfl
            simp only [List.getElem_toArray, List.getElem_cons_zero, List.getElem_cons_succ, Act.put, List.setIfInBounds_toArray, List.set_cons_zero, List.set_cons_succ]
            refine wpAnyH_take (i := 15) (v := ?_) rfl (by kernel_rfl) (by kernel_rfl) (by kernel_rfl) (fun _ _ _ h => h) (Or.inl ⟨by rfl, ?_⟩) ⟨BD.out, KD.out.1, KD.out.2⟩ ?_
            rotate_left
            · intro wq hSw; go_simp; first | done | with_reducible rfl
            simp only [List.getElem_toArray, List.getElem_cons_zero, List.getElem_cons_succ, Act.put, List.setIfInBounds_toArray, List.set_cons_zero, List.set_cons_succ]
            refine wpAnyH_take (i := 16) (v := ?_) rfl (by kernel_rfl) (by kernel_rfl) (by kernel_rfl) (fun _ _ _ h => h) (Or.inl ⟨by rfl, ?_⟩) ⟨BD.out, KD.out.1, KD.out.2⟩ ?_
            rotate_left
            · intro wq hSw; have cl0 := keep_of_below hSw.1 _ _ CD.out.2; go_simp; first | done | with_reducible rfl
            simp only [List.getElem_toArray, List.getElem_cons_zero, List.getElem_cons_succ, Act.put, List.setIfInBounds_toArray, List.set_cons_zero, List.set_cons_succ]
            refine wpAnyH_take (i := 17) (v := ?_) rfl (by kernel_rfl) (by kernel_rfl) (by kernel_rfl) (fun _ _ _ h => h) (Or.inl ⟨by rfl, ?_⟩) ⟨BD.out, KD.out.1, KD.out.2⟩ ?_
            rotate_left
            · intro wq hSw; go_simp; first | done | with_reducible rfl
            simp only [List.getElem_toArray, List.getElem_cons_zero, List.getElem_cons_succ, Act.put, List.setIfInBounds_toArray, List.set_cons_zero, List.set_cons_succ]
            refine wpAnyH_ready (rs := [18]) (by kernel_rfl) (by simp) ?_
            refine AllReadyH.cons rfl (fun K0 hK0 => ?_) ?_
            rotate_left
            · exact AllReadyH.nil
            have nb := new_int v0 (.int .i64 (z + y))
            have ow := OD.out.own.alloc (.cells #[.int .i64 (z + y)] 3)
            have bw : Below w5.heap.size w5 (v0.alloc (.cells #[.int .i64 (z + y)] 3)) := OD.out.since.alloc OD.out.since.size _
            have bd := BD.out.alloc BD.out.size (.cells #[.int .i64 (z + y)] 3)
            have kd : Blk (v0.alloc (.cells #[.int .i64 (z + y)] 3)) w.heap.size 30 #[.int .u64 S, .slice (some ⟨b, o, none⟩) R cap] ∧ Blk (v0.alloc (.cells #[.int .i64 (z + y)] 3)) (w.heap.size + 1) 30 #[.int .u64 S, .slice (some ⟨b', o', none⟩) R cap'] := ⟨KD.out.1.alloc _, KD.out.2.alloc _⟩
            have sz := OD.out.since.size
            go_simp
            generalize hv1 : v0.alloc (.cells #[.int .i64 (z + y)] 3) = v1 at nb ow bw bd kd ⊢
            generalize v0.heap.size = g1 at nb sz ⊢
            have NB : Hid (∀ (j : Nat) (u : Value), [Value.int .i64 (z + y)][j]? = some u → v1.cell? ((⟨g1, 0, none⟩ : Addr).add j) = some u) := nb
            have OW : Hid (v1.ownsRow w5.heap.size 3 1 (.slice ai c ci) c (cellsI c ((mergeG Z Y) k))) := ow
            have BW : Hid (Below w5.heap.size w5 v1) := bw
            have BD2 : Hid (Below w.heap.size w v1) := bd
            have KD2 : Hid (Blk v1 w.heap.size 30 #[.int .u64 S, .slice (some ⟨b, o, none⟩) R cap] ∧ Blk v1 (w.heap.size + 1) 30 #[.int .u64 S, .slice (some ⟨b', o', none⟩) R cap']) := kd
            have sz1 : w5.heap.size ≤ v1.heap.size := bw.size
            clear nb ow bw bd kd hv1 sz
            refine hK0.out _ _ (by exact ⟨BD2.out, KD2.out.1, KD2.out.2⟩) (fun hHeld => ?_)
            clear hK0 K0 hHeld
            refine wpAnyH_ready (rs := [19]) (by kernel_rfl) (by simp) ?_
            refine AllReadyH.cons rfl (fun K0 hK0 => ?_) ?_
            rotate_left
            · exact AllReadyH.nil
            refine step_append_lies _ rfl (.tmp 49) (.tmp 67) 33 rfl w5.heap.size 3 i3 (.int .i64 0) 1 8 Try.underlying33 HI.out.1 HI.out.2.1 HI.out.2.2.1 HI.out.2.2.2 rfl (by omega) (.slice ai c ci) c (cellsI c ((mergeG Z Y) k)) (by simp [Act.eval]) OW.out ⟨g1, 0, none⟩ 1 1 [.int .i64 (z + y)] (by simp [Act.eval]) rfl NB.out (one_i64 _) (by omega) (by unfold maxLen; omega) (by omega) (by omega) v1.heap.size rfl ?_
            intro g2 cap2 v2 hown hgrow hat hlt2
            have bn : Below w5.heap.size w5 v2 := BW.out.grown hgrow (by omega) fun q e => (OW.out.lt q e).1
            have GN : Hid (GrowI w5 v2 (.slice (some ⟨g2, 0, none⟩) (c + 1) cap2) (c + 1) ((mergeG Z Y) k)) := ⟨by rw [← cellsI_succ, ← EV.out]; exact hown, bn⟩
            have BD3 : Hid (Below w.heap.size w v2) := bel_trans B5.out bn
            have KD3 : Hid (Blk v2 w.heap.size 30 #[.int .u64 S, .slice (some ⟨b, o, none⟩) R cap] ∧ Blk v2 (w.heap.size + 1) 30 #[.int .u64 S, .slice (some ⟨b', o', none⟩) R cap']) := ⟨K5.out.1.since bn, K5.out.2.since bn⟩
            clear hown hgrow hat hlt2 bn
            refine hK0.out _ _ (by exact ⟨BD3.out, KD3.out.1, KD3.out.2⟩) (fun hHeld => ?_)
            clear hK0 K0 hHeld
            refine wpAnyH_ready (rs := [20]) (by kernel_rfl) (by simp) ?_
            refine AllReadyH.cons rfl (fun K0 hK0 => ?_) ?_
            rotate_left
            · exact AllReadyH.nil
            go_simp
            refine hK0.out _ _ (by exact ⟨BD3.out, KD3.out.1, KD3.out.2⟩) (fun hHeld => ?_)
            clear hK0 K0 hHeld
            refine wpAnyH_done (by kernel_rfl) ?_ _
            refine NoPanic.normal ?_
            go_wp2_with fail
            go_roundg (n - (c + 1))
            case measure => have := HJ.out.1; omega
            case rel => exact ⟨c + 1, _, _, false, ⟨rfl, by omega, GN.out, SB.out⟩, rfl, rfl, by go_num⟩
        · have HE : Hid (c = n) := (by omega : c = n)
          have bc : ¬ (c : Int) < (n : Int) := by omega
          have hn : c = n := by omega
          subst hn
          obtain ⟨gr, capr, ev, hcr, hgr, hrow⟩ := hI.row n0
          have HRW : Hid (c ≤ capr ∧ w5.heap.size ≤ gr ∧ RowN wr gr c ((mergeG Z Y) k) ∧ Below w5.heap.size w5 wr) := ⟨hcr, hgr, hrow, hI.since⟩
          have LW : Hid (LinG u0 wr (.slice ao k cv) k c V G (mergeG Z Y)) := L5.out.keep hI.since
          have hsz : u0.heap.size ≤ wr.heap.size := LW.out.since.size
          cases ev
          clear hg hI hcr hgr hrow
          go_wp2_with (at_builtin; refine wpList_append_lies _ rfl _ _ _ rfl u0.heap.size 33 ir (.slice none 0 0) 1 24 Try.underlying23 HR.out.1 HR.out.2.1 HR.out.2.2.1 HR.out.2.2.2 rfl (by omega) (.slice ao k cv) k ((List.range k).map V) (by rfl) (LW.out.own.alloc _) ⟨wr.heap.size, 0, none⟩ 1 1 [.slice (some ⟨gr, 0, none⟩) c ci] (by rfl) rfl (new_row wr _) (fun u hu => by rw [List.mem_singleton.1 hu]; rfl) (by omega) (by unfold maxLen; omega) (by omega) (by simp; omega) (wr.heap.size + 1) (by simp) ?_; intro g cap1 w3 hown1 hgrow hat hlt1)
          go_roundg (R - (k + 1))
          case measure => have := HK.out.1; omega
          case rel => exact ⟨k + 1, _, _, B, ⟨rfl, by omega, ⟨_, _, L5.out.more HRW.out.2.2.2 HRW.out.2.1 HRW.out.1 HRW.out.2.2.1 hown1 hgrow hat⟩, saysB_row HJ.out.2.2 rfl⟩, rfl, rfl, by go_num⟩
    · have e : k = R := by omega
      have HE : Hid (k = R) := e
      have b1 : ¬ (k : Int) < (R : Int) := by omega
      have kx := KX.out.since hA.since
      have kr := KR.out.since hA.since
      have f2 : wr.frozen? ⟨w.heap.size, 1, none⟩ = false := kx.frozen 1
      have r0 : ∀ v, (wr.setCell ⟨w.heap.size, 1, none⟩ v).cell? ⟨w.heap.size + 2, 0, none⟩ = some (.int .u64 0) := fun v => (kr.other (a := ⟨w.heap.size, 1, none⟩) (by show w.heap.size + 2 ≠ w.heap.size; omega) v).cell 0
      have z0 : ∀ v, (wr.setCell ⟨w.heap.size, 1, none⟩ v).frozen? ⟨w.heap.size + 2, 0, none⟩ = false := fun v => (kr.other (a := ⟨w.heap.size, 1, none⟩) (by show w.heap.size + 2 ≠ w.heap.size; omega) v).frozen 0
      have r1 : ∀ v, (wr.setCell ⟨w.heap.size, 1, none⟩ v).cell? ⟨w.heap.size + 2, 1, none⟩ = some (.slice none 0 0) := fun v => (kr.other (a := ⟨w.heap.size, 1, none⟩) (by show w.heap.size + 2 ≠ w.heap.size; omega) v).cell 1
      have z1 : ∀ v, (wr.setCell ⟨w.heap.size, 1, none⟩ v).frozen? ⟨w.heap.size + 2, 1, none⟩ = false := fun v => (kr.other (a := ⟨w.heap.size, 1, none⟩) (by show w.heap.size + 2 ≠ w.heap.size; omega) v).frozen 1
      have KK : Hid (Blk (wr.setCell ⟨w.heap.size, 1, none⟩ (.slice ao k cv)) (w.heap.size + 2) 30 #[.int .u64 0, .slice none 0 0] ∧ Blk (wr.setCell ⟨w.heap.size, 1, none⟩ (.slice ao k cv)) w.heap.size 30 #[.int .u64 S, .slice ao k cv]) := ⟨kr.other (a := ⟨w.heap.size, 1, none⟩) (by show w.heap.size + 2 ≠ w.heap.size; omega) _, kx.set 1 _⟩
      have y0 : (wr.setCell ⟨w.heap.size, 1, none⟩ (.slice ao k cv)).cell? ⟨w.heap.size, 0, none⟩ = some (.int .u64 S) := KK.out.2.cell 0
      have y1 : (wr.setCell ⟨w.heap.size, 1, none⟩ (.slice ao k cv)).cell? ⟨w.heap.size, 1, none⟩ = some (.slice ao k cv) := KK.out.2.cell 1
      clear e hg hA hB hlt kx kr
      go_wp2_with fail
      refine bodyPost_ret (v := .tuple #[.agg #[.int .u64 S, .slice ao k cv], .bool B0]) ?_ rfl ?_
      rotate_left
      · exact ⟨_, B0, rfl, ⟨_, rfl, by have t := rows_put HK.out.2.1 (w2 := put2 (wr.setCell ⟨w.heap.size, 1, none⟩ (.slice ao k cv)) (w.heap.size + 2) (.int .u64 S) (.slice ao k cv)) (fun q hq => by have l := LS.out; rw [put2_heap _ _ _ _ q (by omega), Below.heap_setCell _ _ _ q (by show q ≠ w.heap.size; omega)]); rw [HE.out] at t ⊢; exact t⟩, saysB_ok (by have t := HK.out.2.2; rw [HE.out] at t; exact t) OK.out.1, put2_below ((bel_trans BX.out HK.out.2.1.since).setCell (p := ⟨w.heap.size, 1, none⟩) (Nat.le_refl _) _) (by omega) _ _⟩
      have c3 := put2_blk (t := 30) (KK.out.1) (.int .u64 S) (.slice ao k cv)
      have c30 := c3.cell 0
      have c31 := c3.cell 1
      change (results _ _).run _ (put2 (wr.setCell ⟨w.heap.size, 1, none⟩ (.slice ao k cv)) (w.heap.size + 2) (.int .u64 S) (.slice ao k cv)) = .ok _ (put2 (wr.setCell ⟨w.heap.size, 1, none⟩ (.slice ao k cv)) (w.heap.size + 2) (.int .u64 S) (.slice ao k cv))
      generalize put2 (wr.setCell ⟨w.heap.size, 1, none⟩ (.slice ao k cv)) (w.heap.size + 2) (.int .u64 S) (.slice ao k cv) = W5 at c30 c31
      simp [results, Try.results24, go_sem, c30, c31]
end Go.Proofs.Ytpjpgcjlbfgkdaa
