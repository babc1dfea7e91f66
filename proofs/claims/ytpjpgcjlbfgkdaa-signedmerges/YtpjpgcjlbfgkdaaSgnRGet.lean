
/-
  Get of the document (layer 12): what it answers.
-/
import Derived.Test.YtpjpgcjlbfgkdaaSgnRef
import Derived.Test.YtpjpgcjlbfgkdaaLstRGrow
import Derived.Test.YtpjpgcjlbfgkdaaRegKit
import Derived.Deep.RegionHeld
namespace Go.Proofs.Ytpjpgcjlbfgkdaa
open Go.RowKit Fm Bl Sg L2 Go.Deep
set_option linter.unusedVariables false

theorem GrowI.keep {w wr w2 : World} {v : Value} {k : Nat} {z : Nat → Int} (h : GrowI w wr v k z) (s : Below wr.heap.size wr w2) : GrowI w w2 v k z := ⟨owns_below h.own s, bel_trans h.since s⟩
set_option maxRecDepth 8000 in
set_option maxHeartbeats 6400000 in
theorem hget_ok (w : World) (x : Value) (S : Int) (R n : Nat) (Z : Nat → Nat → Int) (s : ByteArray) (h : SgAt w x S R (fun _ => n) Z) (ok : OkG R n Z) (uS : U S) (hs : s.size ≤ 100000) :
    Calls Try.prog 20 #[x, .string s] w fun e w' => e = .returned (.int .i64 (getG S R n Z s)) ∧ Below w.heap.size w w' := by
  obtain ⟨v, rfl, hv⟩ := h
  have r1 : 1 ≤ R := ok.1
  have hR : R ≤ 7 := ok.2.1
  have n0 : 1 ≤ n := ok.2.2.2.1
  have n1 : n ≤ 256 := ok.2.2.2.2.1
  have OK : Hid (OkG R n Z) := ok
  obtain ⟨A, cap, b, o, rfl, hc, hr⟩ := hv.read
  have RW : Hid (RowsCells w A R b o (fun _ => n) Z) := hr
  have BX : Hid (Below w.heap.size w (w.alloc (.cells #[.int .u64 S, .slice A R cap] 30))) := bel_alloc _ _
  have KX : Hid (Blk (w.alloc (.cells #[.int .u64 S, .slice A R cap] 30)) w.heap.size 30 #[.int .u64 S, .slice A R cap]) := Blk.new _ _ _
  obtain ⟨i3, hi, hz0, hz1, hz2⟩ := info3'
  have HI : Hid (Try.prog.info? 3 = some i3 ∧ i3.zero = some (.int .i64 0) ∧ i3.size = 1 ∧ i3.bytes = 8) := ⟨hi, hz0, hz1, hz2⟩
  clear hi hz0 hz1 hz2
  clear hv hr ok
  go_enter Try.func20, Try.ntmps20
  go_wp2_with fail
  generalize w.alloc (.cells #[.int .u64 S, .slice A R cap] 30) = u0 at *
  have LS : Hid (w.heap.size < u0.heap.size) := KX.out.lt
  go_loopg [5, 6] R (fun gk l i wr => ∃ (k : Nat) (ao : Option Addr) (cv : Nat), (gk = R - k ∧ k ≤ R ∧ GrowI u0 wr (.slice ao k cv) k (ownG S n Z s)) ∧ l = .slice ao k cv ∧ i = .int .i64 (k : Int))
  case atStart => exact ⟨0, none, 0, ⟨rfl, by omega, growI_start _ _⟩, rfl, rfl⟩
  case round =>
    obtain ⟨k, ao, cv, ⟨hg, hk, hI⟩, rfl, rfl⟩ := hrel
    have HK : Hid (gk = R - k ∧ GrowI u0 wr (.slice ao k cv) k (ownG S n Z s)) := ⟨hg, hI⟩
    have x2 : wr.cell? ⟨w.heap.size, 1, none⟩ = some (.slice A R cap) := (KX.out.since hI.since).cell 1
    by_cases hlt : k < R
    · obtain ⟨rfl, A', cap', b', o', d1, lk, fk, gk'⟩ := RW.out k hlt
      obtain rfl := fk (by show 0 < n; omega)
      have D1 : Hid (w.cell? ⟨b, o + k, none⟩ = some (.slice (some ⟨b', o', none⟩) n cap')) := d1
      have bk : (k : Int) < (R : Int) := by omega
      have b0 : (0 : Int) ≤ (k : Int) := by omega
      obtain ⟨P, hP⟩ : ∃ P, P = cellN S s n k := ⟨_, rfl⟩
      have pl : P < n := by rw [hP]; exact cellN_lt S s n k n0
      have CP := gk' P pl
      obtain ⟨z, hz⟩ : ∃ z, z = Z k P := ⟨_, rfl⟩
      rw [← hz] at CP
      have CP : Hid (w.cell? ⟨b', o' + P, none⟩ = some (.int .i64 z)) := CP
      have pb : (P : Int) < (n : Int) := by omega
      have p0 : (0 : Int) ≤ (P : Int) := by omega
      obtain ⟨sg, hsg⟩ : ∃ sg, sg = sgnN S s k := ⟨_, rfl⟩
      obtain ⟨zs, hzs⟩ : ∃ zs, zs = sg * z := ⟨_, rfl⟩
      have zr := OK.out.fits hlt pl
      rw [← hz] at zr
      have qr := sgn_fits (sgnN_is S s k) zr.1 zr.2
      rw [← hsg, Int.mul_comm, ← hzs] at qr
      obtain ⟨qr0, qr1⟩ := qr
      have HZ : Hid (zs = ownG S n Z s k) := by rw [hzs, hz, hsg, hP, Int.mul_comm]; exact rfl
      have QS : sg * z = zs := hzs.symm
      have wq1 : IntKind.i64.wrap zs = zs := by rw [IntKind.wrap_i64]; omega
      have CK : Hid (∀ w1, Calls Try.prog 19 #[.int .u64 S, .string s, .int .i64 (k : Int), .int .i64 (n : Int)] w1 fun e w' => e = .returned (.int .i64 (P : Int)) ∧ Below w1.heap.size w1 w') := fun w1 => by rw [hP]; exact hcell_any S s k n w1 uS hs (by omega) n0 (by omega)
      have SK : Hid (∀ w1, Calls Try.prog 37 #[.int .u64 S, .string s, .int .i64 (k : Int)] w1 fun e w' => e = .returned (.int .i64 sg) ∧ Below w1.heap.size w1 w') := fun w1 => by rw [hsg]; exact hsign_any S s k w1 uS hs (by omega)
      have OD : Hid (GrowI u0 wr.drew (.slice ao k cv) k (ownG S n Z s)) := hI.drew
      have BD : Hid (Below w.heap.size w wr.drew) := bel_trans BX.out OD.out.since
      have KD : Hid (Blk wr.drew w.heap.size 30 #[.int .u64 S, .slice (some ⟨b, o, none⟩) R cap]) := KX.out.since OD.out.since
      clear hg hI hP hz hsg hzs gk' lk zr d1
      go_wp2_with fail
      clear x2
      refine wp_region_noPanic ?_
      refine wp_region_held_drew (S := (fun w' => Below w.heap.size w w' ∧ Blk w' w.heap.size 30 #[.int .u64 S, .slice (some ⟨b, o, none⟩) R cap])) (by kernel_rfl) ⟨BD.out, KD.out⟩ (fun hHeld => ?_)
      clear hHeld
      generalize wr.drew = v0 at BD KD OD ⊢
      refine wpAnyH_take (i := 0) (v := ?_) rfl (by kernel_rfl) (by kernel_rfl) (by kernel_rfl) (fun _ _ _ h => h) (Or.inl ⟨by rfl, ?_⟩) ⟨BD.out, KD.out⟩ ?_
      rotate_left
      · intro wq hSw; go_simp; first | done | with_reducible rfl
      simp only [List.getElem_toArray, List.getElem_cons_zero, Act.put, List.setIfInBounds_toArray, List.set_cons_zero, List.set_cons_succ]
      refine wpAnyH_take (i := 1) (v := ?_) rfl (by kernel_rfl) (by kernel_rfl) (by kernel_rfl) (fun _ _ _ h => h) (Or.inl ⟨by rfl, ?_⟩) ⟨BD.out, KD.out⟩ ?_
      rotate_left
      · intro wq hSw; go_simp; first | done | with_reducible rfl
      simp only [List.getElem_toArray, List.getElem_cons_zero, List.getElem_cons_succ, Act.put, List.setIfInBounds_toArray, List.set_cons_zero, List.set_cons_succ]
      refine wpAnyH_take (i := 2) (v := ?_) rfl (by kernel_rfl) (by kernel_rfl) (by kernel_rfl) (fun _ _ _ h => h) (Or.inl ⟨by rfl, ?_⟩) ⟨BD.out, KD.out⟩ ?_
      rotate_left
      · intro wq hSw; have cl0 := hSw.2.cell 0; go_simp; first | done | with_reducible rfl
      simp only [List.getElem_toArray, List.getElem_cons_zero, List.getElem_cons_succ, Act.put, List.setIfInBounds_toArray, List.set_cons_zero, List.set_cons_succ]
      refine wpAnyH_take (i := 3) (v := ?_) rfl (by kernel_rfl) (by kernel_rfl) (by kernel_rfl) (fun _ _ _ h => h) (Or.inl ⟨by rfl, ?_⟩) ⟨BD.out, KD.out⟩ ?_
      rotate_left
      · intro wq hSw; go_simp; first | done | with_reducible rfl
      simp only [List.getElem_toArray, List.getElem_cons_zero, List.getElem_cons_succ, Act.put, List.setIfInBounds_toArray, List.set_cons_zero, List.set_cons_succ]
      refine wpAnyH_take (i := 4) (v := ?_) rfl (by kernel_rfl) (by kernel_rfl) (by kernel_rfl) (fun _ _ _ h => h) (Or.inl ⟨by rfl, ?_⟩) ⟨BD.out, KD.out⟩ ?_
      rotate_left
      · intro wq hSw; go_simp; first | done | with_reducible rfl
      simp only [List.getElem_toArray, List.getElem_cons_zero, List.getElem_cons_succ, Act.put, List.setIfInBounds_toArray, List.set_cons_zero, List.set_cons_succ]
      refine wpAnyH_take (i := 6) (v := ?_) rfl (by kernel_rfl) (by kernel_rfl) (by kernel_rfl) (fun _ _ _ h => h) (Or.inl ⟨by rfl, ?_⟩) ⟨BD.out, KD.out⟩ ?_
      rotate_left
      · intro wq hSw; go_simp; first | done | with_reducible rfl
      simp only [List.getElem_toArray, List.getElem_cons_zero, List.getElem_cons_succ, Act.put, List.setIfInBounds_toArray, List.set_cons_zero, List.set_cons_succ]
      refine wpAnyH_take (i := 7) (v := ?_) rfl (by kernel_rfl) (by kernel_rfl) (by kernel_rfl) (fun _ _ _ h => h) (Or.inl ⟨by rfl, ?_⟩) ⟨BD.out, KD.out⟩ ?_
      rotate_left
      · intro wq hSw; have cl0 := hSw.2.cell 1; go_simp; first | done | with_reducible rfl
      simp only [List.getElem_toArray, List.getElem_cons_zero, List.getElem_cons_succ, Act.put, List.setIfInBounds_toArray, List.set_cons_zero, List.set_cons_succ]
      refine wpAnyH_take (i := 8) (v := ?_) rfl (by kernel_rfl) (by kernel_rfl) (by kernel_rfl) (fun _ _ _ h => h) (Or.inl ⟨by rfl, ?_⟩) ⟨BD.out, KD.out⟩ ?_
      rotate_left
      · intro wq hSw; go_simp; first | done | with_reducible rfl
      simp only [List.getElem_toArray, List.getElem_cons_zero, List.getElem_cons_succ, Act.put, List.setIfInBounds_toArray, List.set_cons_zero, List.set_cons_succ]
      refine wpAnyH_take (i := 9) (v := ?_) rfl (by kernel_rfl) (by kernel_rfl) (by kernel_rfl) (fun _ _ _ h => h) (Or.inl ⟨by rfl, ?_⟩) ⟨BD.out, KD.out⟩ ?_
      rotate_left
      · intro wq hSw; go_simp; first | done | with_reducible rfl
      simp only [List.getElem_toArray, List.getElem_cons_zero, List.getElem_cons_succ, Act.put, List.setIfInBounds_toArray, List.set_cons_zero, List.set_cons_succ]
      refine wpAnyH_take (i := 10) (v := ?_) rfl (by kernel_rfl) (by kernel_rfl) (by kernel_rfl) (fun _ _ _ h => h) (Or.inl ⟨by rfl, ?_⟩) ⟨BD.out, KD.out⟩ ?_
      rotate_left
      · intro wq hSw; have cl0 := keep_of_below hSw.1 _ _ D1.out; go_simp; first | done | with_reducible rfl
      simp only [List.getElem_toArray, List.getElem_cons_zero, List.getElem_cons_succ, Act.put, List.setIfInBounds_toArray, List.set_cons_zero, List.set_cons_succ]
      refine wpAnyH_take (i := 11) (v := ?_) rfl (by kernel_rfl) (by kernel_rfl) (by kernel_rfl) (fun _ _ _ h => h) (Or.inl ⟨by rfl, ?_⟩) ⟨BD.out, KD.out⟩ ?_
      rotate_left
      · intro wq hSw; go_simp; first | done | with_reducible rfl
      simp only [List.getElem_toArray, List.getElem_cons_zero, List.getElem_cons_succ, Act.put, List.setIfInBounds_toArray, List.set_cons_zero, List.set_cons_succ]
      refine wpAnyH_take (i := 12) (v := ?_) rfl (by kernel_rfl) (by kernel_rfl) (by kernel_rfl) (fun _ _ _ h => h) (Or.inl ⟨by rfl, ?_⟩) ⟨BD.out, KD.out⟩ ?_
      rotate_left
      · intro wq hSw; have cl0 := hSw.2.cell 0; go_simp; first | done | with_reducible rfl
      simp only [List.getElem_toArray, List.getElem_cons_zero, List.getElem_cons_succ, Act.put, List.setIfInBounds_toArray, List.set_cons_zero, List.set_cons_succ]
      refine wpAnyH_take (i := 13) (v := ?_) rfl (by kernel_rfl) (by kernel_rfl) (by kernel_rfl) (fun _ _ _ h => h) (Or.inl ⟨by rfl, ?_⟩) ⟨BD.out, KD.out⟩ ?_
      rotate_left
      · intro wq hSw; go_simp; first | done | with_reducible rfl
      simp only [List.getElem_toArray, List.getElem_cons_zero, List.getElem_cons_succ, Act.put, List.setIfInBounds_toArray, List.set_cons_zero, List.set_cons_succ]
      refine wpAnyH_take (i := 14) (v := ?_) rfl (by kernel_rfl) (by kernel_rfl) (by kernel_rfl) (fun _ _ _ h => h) (Or.inl ⟨by rfl, ?_⟩) ⟨BD.out, KD.out⟩ ?_
      rotate_left
      · intro wq hSw; go_simp; first | done | with_reducible rfl
      simp only [List.getElem_toArray, List.getElem_cons_zero, List.getElem_cons_succ, Act.put, List.setIfInBounds_toArray, List.set_cons_zero, List.set_cons_succ]
      refine wpAnyH_take (i := 15) (v := ?_) rfl (by kernel_rfl) (by kernel_rfl) (by kernel_rfl) (fun _ _ _ h => h) (Or.inl ⟨by rfl, ?_⟩) ⟨BD.out, KD.out⟩ ?_
      rotate_left
      · intro wq hSw; go_simp; first | done | with_reducible rfl
      simp only [List.getElem_toArray, List.getElem_cons_zero, List.getElem_cons_succ, Act.put, List.setIfInBounds_toArray, List.set_cons_zero, List.set_cons_succ]
      refine wpAnyH_take (i := 16) (v := ?_) rfl (by kernel_rfl) (by kernel_rfl) (by kernel_rfl) (fun _ _ _ h => h) (Or.inl ⟨by rfl, ?_⟩) ⟨BD.out, KD.out⟩ ?_
      rotate_left
      · intro wq hSw; have cl0 := hSw.2.cell 1; go_simp; first | done | with_reducible rfl
      simp only [List.getElem_toArray, List.getElem_cons_zero, List.getElem_cons_succ, Act.put, List.setIfInBounds_toArray, List.set_cons_zero, List.set_cons_succ]
      refine wpAnyH_take (i := 17) (v := ?_) rfl (by kernel_rfl) (by kernel_rfl) (by kernel_rfl) (fun _ _ _ h => h) (Or.inl ⟨by rfl, ?_⟩) ⟨BD.out, KD.out⟩ ?_
      rotate_left
      · intro wq hSw; go_simp; first | done | with_reducible rfl
      simp only [List.getElem_toArray, List.getElem_cons_zero, List.getElem_cons_succ, Act.put, List.setIfInBounds_toArray, List.set_cons_zero, List.set_cons_succ]
      refine wpAnyH_take (i := 18) (v := ?_) rfl (by kernel_rfl) (by kernel_rfl) (by kernel_rfl) (fun _ _ _ h => h) (Or.inl ⟨by rfl, ?_⟩) ⟨BD.out, KD.out⟩ ?_
      rotate_left
      · intro wq hSw; go_simp; first | done | with_reducible rfl
      simp only [List.getElem_toArray, List.getElem_cons_zero, List.getElem_cons_succ, Act.put, List.setIfInBounds_toArray, List.set_cons_zero, List.set_cons_succ]
      refine wpAnyH_take (i := 19) (v := ?_) rfl (by kernel_rfl) (by kernel_rfl) (by kernel_rfl) (fun _ _ _ h => h) (Or.inl ⟨by rfl, ?_⟩) ⟨BD.out, KD.out⟩ ?_
      rotate_left
      · intro wq hSw; have cl0 := keep_of_below hSw.1 _ _ D1.out; go_simp; first | done | with_reducible rfl
      simp only [List.getElem_toArray, List.getElem_cons_zero, List.getElem_cons_succ, Act.put, List.setIfInBounds_toArray, List.set_cons_zero, List.set_cons_succ]
      refine wpAnyH_take (i := 20) (v := ?_) rfl (by kernel_rfl) (by kernel_rfl) (by kernel_rfl) (fun _ _ _ h => h) (Or.inl ⟨by rfl, ?_⟩) ⟨BD.out, KD.out⟩ ?_
      rotate_left
      · intro wq hSw; go_simp; first | done | with_reducible rfl
      simp only [List.getElem_toArray, List.getElem_cons_zero, List.getElem_cons_succ, Act.put, List.setIfInBounds_toArray, List.set_cons_zero, List.set_cons_succ]
      refine wpAnyH_ready (rs := [5]) (by kernel_rfl) (by simp) ?_
      refine AllReadyH.cons rfl (fun K0 hK0 => ?_) ?_
      rotate_left
      · exact AllReadyH.nil
      refine step_func 37 #[.int .u64 S, .string s, .int .i64 (k : Int)] (by rfl) rfl (by simp [Act.eval]) (fun _ _ => by kernel_rfl) ?_
      refine (SK.out _).mono ?_
      rintro e v1 ⟨rfl, bb⟩
      have BD : Hid (Below w.heap.size w v1) := bel_trans BD.out bb
      have KD : Hid (Blk v1 w.heap.size 30 #[.int .u64 S, .slice (some ⟨b, o, none⟩) R cap]) := KD.out.since bb
      have OD : Hid (GrowI u0 v1 (.slice ao k cv) k (ownG S n Z s)) := OD.out.keep bb
      clear bb
      refine ⟨_, rfl, ?_⟩
      refine hK0.out _ _ (by exact ⟨BD.out, KD.out⟩) (fun hHeld => ?_)
      clear hK0 K0 hHeld
      simp only [Act.put, List.setIfInBounds_toArray]
      refine wpAnyH_ready (rs := [21]) (by kernel_rfl) (by simp) ?_
      refine AllReadyH.cons rfl (fun K0 hK0 => ?_) ?_
      rotate_left
      · exact AllReadyH.nil
      refine step_func 19 #[.int .u64 S, .string s, .int .i64 (k : Int), .int .i64 (n : Int)] (by rfl) rfl (by simp [Act.eval]) (fun _ _ => by kernel_rfl) ?_
      refine (CK.out _).mono ?_
      rintro e v2 ⟨rfl, bb⟩
      have BD : Hid (Below w.heap.size w v2) := bel_trans BD.out bb
      have KD : Hid (Blk v2 w.heap.size 30 #[.int .u64 S, .slice (some ⟨b, o, none⟩) R cap]) := KD.out.since bb
      have OD : Hid (GrowI u0 v2 (.slice ao k cv) k (ownG S n Z s)) := OD.out.keep bb
      clear bb
      refine ⟨_, rfl, ?_⟩
      refine hK0.out _ _ (by exact ⟨BD.out, KD.out⟩) (fun hHeld => ?_)
      clear hK0 K0 hHeld
      refine wpAnyH_take (i := 22) (v := ?_) rfl (by kernel_rfl) (by kernel_rfl) (by kernel_rfl) (fun _ _ _ h => h) (Or.inl ⟨by rfl, ?_⟩) ⟨BD.out, KD.out⟩ ?_
      rotate_left
      · intro wq hSw; go_simp; first | done | with_reducible rfl
      simp only [List.getElem_toArray, List.getElem_cons_zero, List.getElem_cons_succ, Act.put, List.setIfInBounds_toArray, List.set_cons_zero, List.set_cons_succ]
      refine wpAnyH_take (i := 23) (v := ?_) rfl (by kernel_rfl) (by kernel_rfl) (by kernel_rfl) (fun _ _ _ h => h) (Or.inl ⟨by rfl, ?_⟩) ⟨BD.out, KD.out⟩ ?_
      rotate_left
      · intro wq hSw; have cl0 := keep_of_below hSw.1 _ _ CP.out; go_simp; first | done | with_reducible rfl
      simp only [List.getElem_toArray, List.getElem_cons_zero, List.getElem_cons_succ, Act.put, List.setIfInBounds_toArray, List.set_cons_zero, List.set_cons_succ]
      refine wpAnyH_take (i := 24) (v := ?_) rfl (by kernel_rfl) (by kernel_rfl) (by kernel_rfl) (fun _ _ _ h => h) (Or.inl ⟨by rfl, ?_⟩) ⟨BD.out, KD.out⟩ ?_
      rotate_left
      · intro wq hSw; go_simp; first | done | with_reducible rfl
      simp only [List.getElem_toArray, List.getElem_cons_zero, List.getElem_cons_succ, Act.put, List.setIfInBounds_toArray, List.set_cons_zero, List.set_cons_succ]
      refine wpAnyH_ready (rs := [25]) (by kernel_rfl) (by simp) ?_
      refine AllReadyH.cons rfl (fun K0 hK0 => ?_) ?_
      rotate_left
      · exact AllReadyH.nil
      have nb := new_int v2 (.int .i64 zs)
      have ow := OD.out.own.alloc (.cells #[.int .i64 zs] 3)
      have bw : Below u0.heap.size u0 (v2.alloc (.cells #[.int .i64 zs] 3)) := OD.out.since.alloc OD.out.since.size _
      have bd := BD.out.alloc BD.out.size (.cells #[.int .i64 zs] 3)
      have kd : Blk (v2.alloc (.cells #[.int .i64 zs] 3)) w.heap.size 30 #[.int .u64 S, .slice (some ⟨b, o, none⟩) R cap] := KD.out.alloc _
      have sz := OD.out.since.size
      go_simp
      generalize hv1 : v2.alloc (.cells #[.int .i64 zs] 3) = v3 at nb ow bw bd kd ⊢
      generalize v2.heap.size = g1 at nb sz ⊢
      have NB : Hid (∀ (j : Nat) (u : Value), [Value.int .i64 zs][j]? = some u → v3.cell? ((⟨g1, 0, none⟩ : Addr).add j) = some u) := nb
      have OW : Hid (v3.ownsRow u0.heap.size 3 1 (.slice ao k cv) k (cellsI k (ownG S n Z s))) := ow
      have BW : Hid (Below u0.heap.size u0 v3) := bw
      have BD2 : Hid (Below w.heap.size w v3) := bd
      have KD2 : Hid (Blk v3 w.heap.size 30 #[.int .u64 S, .slice (some ⟨b, o, none⟩) R cap]) := kd
      have sz1 : u0.heap.size ≤ v3.heap.size := bw.size
      clear nb ow bw bd kd hv1 sz
      refine hK0.out _ _ (by exact ⟨BD2.out, KD2.out⟩) (fun hHeld => ?_)
      clear hK0 K0 hHeld
      refine wpAnyH_ready (rs := [26]) (by kernel_rfl) (by simp) ?_
      refine AllReadyH.cons rfl (fun K0 hK0 => ?_) ?_
      rotate_left
      · exact AllReadyH.nil
      refine step_append_lies _ rfl (.tmp 18) (.tmp 43) 33 rfl u0.heap.size 3 i3 (.int .i64 0) 1 8 Try.underlying33 HI.out.1 HI.out.2.1 HI.out.2.2.1 HI.out.2.2.2 rfl (by omega) (.slice ao k cv) k (cellsI k (ownG S n Z s)) (by simp [Act.eval]) OW.out ⟨g1, 0, none⟩ 1 1 [.int .i64 zs] (by simp [Act.eval]) rfl NB.out (one_i64 _) (by omega) (by unfold maxLen; omega) (by omega) (by omega) v3.heap.size rfl ?_
      intro g2 cap2 v4 hown hgrow hat hlt2
      have bn : Below u0.heap.size u0 v4 := BW.out.grown hgrow (by omega) fun q e => (OW.out.lt q e).1
      have GN : Hid (GrowI u0 v4 (.slice (some ⟨g2, 0, none⟩) (k + 1) cap2) (k + 1) (ownG S n Z s)) := ⟨by rw [← cellsI_succ, ← HZ.out]; exact hown, bn⟩
      have BD3 : Hid (Below w.heap.size w v4) := bel_trans BX.out bn
      have KD3 : Hid (Blk v4 w.heap.size 30 #[.int .u64 S, .slice (some ⟨b, o, none⟩) R cap]) := KX.out.since bn
      clear hown hgrow hat hlt2 bn
      refine hK0.out _ _ (by exact ⟨BD3.out, KD3.out⟩) (fun hHeld => ?_)
      clear hK0 K0 hHeld
      refine wpAnyH_ready (rs := [27]) (by kernel_rfl) (by simp) ?_
      refine AllReadyH.cons rfl (fun K0 hK0 => ?_) ?_
      rotate_left
      · exact AllReadyH.nil
      go_simp
      refine hK0.out _ _ (by exact ⟨BD3.out, KD3.out⟩) (fun hHeld => ?_)
      clear hK0 K0 hHeld
      refine wpAnyH_done (by kernel_rfl) ?_ _
      refine NoPanic.normal ?_
      go_wp2_with fail
      go_roundg (R - (k + 1))
      case measure => have := HK.out.1; omega
      case rel => exact ⟨k + 1, _, _, ⟨rfl, by omega, GN.out⟩, rfl, by go_num⟩
    · have e : k = R := by omega
      have b1 : ¬ (k : Int) < (R : Int) := by omega
      subst e
      obtain ⟨g, cg, ev, hcg, hgg, hrow⟩ := hI.row r1
      have B1 : Hid (Below w.heap.size w wr) := bel_trans BX.out hI.since
      have R1 : Hid (RowN wr g k (ownG S n Z s)) := hrow
      cases ev
      have d3 : (k : Int) / 2 = ((k / 2 : Nat) : Int) := by omega
      have d6 : Int.tdiv (k : Int) 2 = ((k / 2 : Nat) : Int) := by rw [Int.tdiv_eq_ediv_of_nonneg (by omega)]; omega
      clear hg hI hlt hrow KX BX RW HK
      go_wp2_with fail
      clear x2
      obtain ⟨f, hf⟩ : ∃ f, f = ownG S n Z s := ⟨_, rfl⟩
      rw [← hf] at R1
      have HF : Hid (f = ownG S n Z s) := hf
      have odd : Hid (k % 2 = 1) := OK.out.2.2.1
      clear hf
      go_loopg [7] k (fun gi i wi => ∃ a : Nat, (gi = k - a ∧ a ≤ k ∧ (∀ r, r < a → ¬ MidP f k (f r)) ∧ Below w.heap.size w wi ∧ RowN wi g k f) ∧ i = .int .i64 (a : Int))
      case atStart => exact ⟨0, ⟨rfl, by omega, fun r hr => by omega, B1.out, R1.out⟩, rfl⟩
      case round =>
        clear B1 R1
        obtain ⟨a, ⟨hg, ha, hM, hB, hRow⟩, rfl⟩ := hrel
        have HA : Hid (gk = k - a ∧ (∀ r, r < a → ¬ MidP f k (f r)) ∧ Below w.heap.size w wr ∧ RowN wr g k f) := ⟨hg, hM, hB, hRow⟩
        by_cases hal : a < k
        · have ba : (a : Int) < (k : Int) := by omega
          have ba0 : (0 : Int) ≤ (a : Int) := by omega
          obtain ⟨x, hx⟩ : ∃ x, x = f a := ⟨_, rfl⟩
          have HX : Hid (x = f a) := hx
          clear hg hM hB hRow hx
          go_wp2_with fail
          go_loopg [8, 9, 10] k (fun gj p q j wi => ∃ c : Nat, (gj = k - c ∧ c ≤ k ∧ Below w.heap.size w wi ∧ RowN wi g k f) ∧ p = .int .i64 ((lessN f x c : Nat) : Int) ∧ q = .int .i64 ((moreN f x c : Nat) : Int) ∧ j = .int .i64 (c : Int))
          case atStart => exact ⟨0, ⟨rfl, by omega, HA.out.2.2.1, HA.out.2.2.2⟩, rfl, rfl, rfl⟩
          case round =>
            obtain ⟨c, ⟨hg, hc2, hB, hRow⟩, rfl, rfl, rfl⟩ := hrel
            have HJ : Hid (gk = k - c ∧ Below w.heap.size w wr ∧ RowN wr g k f) := ⟨hg, hB, hRow⟩
            have cx : wr.cell? ⟨g, a, none⟩ = some (.int .i64 x) := by rw [HX.out]; exact hRow.cell hal
            obtain ⟨p, hp⟩ : ∃ p, p = lessN f x c := ⟨_, rfl⟩
            obtain ⟨q, hq⟩ : ∃ q, q = moreN f x c := ⟨_, rfl⟩
            have pc : p ≤ 7 := by rw [hp]; have := lessN_le f x c; omega
            have qc : q ≤ 7 := by rw [hq]; have := moreN_le f x c; omega
            rw [← hp, ← hq]
            have HPQ : Hid (p = lessN f x c ∧ q = moreN f x c) := ⟨hp, hq⟩
            clear hp hq
            by_cases hcl : c < k
            · have bc : (c : Int) < (k : Int) := by omega
              have bc0 : (0 : Int) ≤ (c : Int) := by omega
              obtain ⟨y, hy⟩ : ∃ y, y = f c := ⟨_, rfl⟩
              have cy : wr.cell? ⟨g, c, none⟩ = some (.int .i64 y) := by rw [hy]; exact hRow.cell hcl
              have HY : Hid (y = f c) := hy
              clear hg hB hRow hy
              by_cases l1 : y < x
              · have l2 : ¬ y > x := by omega
                have T1 : Hid (f c < x) := by rw [← HY.out]; exact l1
                have T2 : Hid (¬ f c > x) := by rw [← HY.out]; exact l2
                go_wp2_with fail
                go_quiet (fail)
                have cx2 : (wr.drewN nq).cell? ⟨g, a, none⟩ = some (.int .i64 x) := cx
                have cy2 : (wr.drewN nq).cell? ⟨g, c, none⟩ = some (.int .i64 y) := cy
                have B2 : Hid (Below w.heap.size w (wr.drewN nq)) := below_drewN HJ.out.2.1 nq
                have R2 : Hid (RowN (wr.drewN nq) g k f) := HJ.out.2.2
                clear cx cy
                generalize wr.drewN nq = w3 at cx2 cy2 B2 R2 ⊢
                go_wp2_with fail
                go_quiet (fail)
                go_wp2_with fail
                go_roundg (k - (c + 1))
                case measure => have := HJ.out.1; omega
                case rel => exact ⟨c + 1, ⟨rfl, by omega, below_drewN B2.out nq, R2.out⟩, by show _ = Value.int .i64 ((lessN f x c + (if f c < x then 1 else 0) : Nat) : Int); rw [← HPQ.out.1, if_pos (show f c < x by have := T1.out; omega)]; first | rfl | go_num, by show _ = Value.int .i64 ((moreN f x c + (if f c > x then 1 else 0) : Nat) : Int); rw [← HPQ.out.2, if_neg (show ¬ f c > x by have := T2.out; omega)]; first | rfl | go_num, by go_num⟩
              · by_cases l2 : y > x
                · have T1 : Hid (¬ f c < x) := by rw [← HY.out]; exact l1
                  have T2 : Hid (f c > x) := by rw [← HY.out]; exact l2
                  go_wp2_with fail
                  go_quiet (fail)
                  have cx2 : (wr.drewN nq).cell? ⟨g, a, none⟩ = some (.int .i64 x) := cx
                  have cy2 : (wr.drewN nq).cell? ⟨g, c, none⟩ = some (.int .i64 y) := cy
                  have B2 : Hid (Below w.heap.size w (wr.drewN nq)) := below_drewN HJ.out.2.1 nq
                  have R2 : Hid (RowN (wr.drewN nq) g k f) := HJ.out.2.2
                  clear cx cy
                  generalize wr.drewN nq = w3 at cx2 cy2 B2 R2 ⊢
                  go_wp2_with fail
                  go_quiet (fail)
                  go_wp2_with fail
                  go_roundg (k - (c + 1))
                  case measure => have := HJ.out.1; omega
                  case rel => exact ⟨c + 1, ⟨rfl, by omega, below_drewN B2.out nq, R2.out⟩, by show _ = Value.int .i64 ((lessN f x c + (if f c < x then 1 else 0) : Nat) : Int); rw [← HPQ.out.1, if_neg (show ¬ f c < x by have := T1.out; omega)]; first | rfl | go_num, by show _ = Value.int .i64 ((moreN f x c + (if f c > x then 1 else 0) : Nat) : Int); rw [← HPQ.out.2, if_pos (show f c > x by have := T2.out; omega)]; first | rfl | go_num, by go_num⟩
                · have T1 : Hid (¬ f c < x) := by rw [← HY.out]; exact l1
                  have T2 : Hid (¬ f c > x) := by rw [← HY.out]; exact l2
                  go_wp2_with fail
                  go_quiet (fail)
                  have cx2 : (wr.drewN nq).cell? ⟨g, a, none⟩ = some (.int .i64 x) := cx
                  have cy2 : (wr.drewN nq).cell? ⟨g, c, none⟩ = some (.int .i64 y) := cy
                  have B2 : Hid (Below w.heap.size w (wr.drewN nq)) := below_drewN HJ.out.2.1 nq
                  have R2 : Hid (RowN (wr.drewN nq) g k f) := HJ.out.2.2
                  clear cx cy
                  generalize wr.drewN nq = w3 at cx2 cy2 B2 R2 ⊢
                  go_wp2_with fail
                  go_quiet (fail)
                  go_wp2_with fail
                  go_roundg (k - (c + 1))
                  case measure => have := HJ.out.1; omega
                  case rel => exact ⟨c + 1, ⟨rfl, by omega, below_drewN B2.out nq, R2.out⟩, by show _ = Value.int .i64 ((lessN f x c + (if f c < x then 1 else 0) : Nat) : Int); rw [← HPQ.out.1, if_neg (show ¬ f c < x by have := T1.out; omega)]; first | rfl | go_num, by show _ = Value.int .i64 ((moreN f x c + (if f c > x then 1 else 0) : Nat) : Int); rw [← HPQ.out.2, if_neg (show ¬ f c > x by have := T2.out; omega)]; first | rfl | go_num, by go_num⟩
            · have bc : ¬ (c : Int) < (k : Int) := by omega
              have hce : c = k := by omega
              subst hce
              have MP : MidP f c x ↔ p ≤ c / 2 ∧ q ≤ c / 2 := by rw [HPQ.out.1, HPQ.out.2]; exact Iff.rfl
              generalize hH : c / 2 = H at d3 d6 MP
              clear hg hB hRow hcl hH
              by_cases m1 : p ≤ H
              rotate_left
              · have m1' : ¬ (p : Int) ≤ (H : Int) := by omega
                have NM : Hid (¬ MidP f c x) := fun h => m1 (MP.1 h).1
                clear MP m1
                go_wp2_with fail
                go_roundg (c - (a + 1))
                case measure => have := HA.out.1; omega
                case rel =>
                  refine ⟨a + 1, ⟨rfl, by omega, fun r hr => ?_, HJ.out.2⟩, by go_num⟩
                  by_cases er : r = a
                  · rw [er, ← HX.out]; exact NM.out
                  · exact HA.out.2.1 r (by omega)
              have m1' : (p : Int) ≤ (H : Int) := by omega
              by_cases m2 : q ≤ H
              rotate_left
              · have m2' : ¬ (q : Int) ≤ (H : Int) := by omega
                have NM : Hid (¬ MidP f c x) := fun h => m2 (MP.1 h).2
                clear MP m1 m2
                go_wp2_with fail
                go_roundg (c - (a + 1))
                case measure => have := HA.out.1; omega
                case rel =>
                  refine ⟨a + 1, ⟨rfl, by omega, fun r hr => ?_, HJ.out.2⟩, by go_num⟩
                  by_cases er : r = a
                  · rw [er, ← HX.out]; exact NM.out
                  · exact HA.out.2.1 r (by omega)
              have m2' : (q : Int) ≤ (H : Int) := by omega
              have EG : Hid (x = getG S c n Z s) := by
                have := midF_of odd.out (MP.2 ⟨m1, m2⟩)
                rw [← this, HF.out]; exact rfl
              clear MP m1 m2
              go_wp2_with fail
              go_ret
              exact ⟨ret_int EG.out, HJ.out.2.1⟩
        · exfalso
          have hae : a = k := by omega
          obtain ⟨i, hi, e⟩ := midF_mem (f := f) (R := k) (by omega)
          exact hM i (by omega) (by rw [e]; exact midF_mid odd.out)
end Go.Proofs.Ytpjpgcjlbfgkdaa
