
/-
  Get of layer 12 (signed): what it answers.
-/
import Derived.Test.YtpjpgcjlbfgkdaaSgnAdd
import Derived.Test.YtpjpgcjlbfgkdaaSgnSort
import Derived.Test.YtpjpgcjlbfgkdaaRegKit
import Derived.Deep.RegionHeld
namespace Go.Proofs.Ytpjpgcjlbfgkdaa
open Go.RowKit Fm Bl Sg L2 Go.Deep
set_option linter.unusedVariables false

set_option maxHeartbeats 1600000 in
theorem gget_bad (w : World) (x : Value) (S : Int) (R : Nat) (L : Nat → Nat) (Z : Nat → Nat → Int) (s : ByteArray) (h : SgAt w x S R L Z) (hR : R ≤ 1000) (hL : ∀ i, i < R → L i ≤ 1000) (r : ¬ RightG R L Z) :
    Calls Try.prog 16 #[x, .string s] w fun e w' => e = .returned (.int .i64 0) ∧ Below w.heap.size w w' := by
  obtain ⟨v, rfl, hv⟩ := h
  have RC : Hid (∀ w1, Below w.heap.size w w1 → Calls Try.prog 17 #[.agg #[.int .u64 S, v]] w1 fun e w' => e = .returned (.bool false) ∧ Below w1.heap.size w1 w') := fun w1 b1 => gright_no ⟨v, rfl, hv.keep (keep_of_below b1)⟩ hR hL r
  obtain ⟨A, cap, b, o, rfl, hc, hr⟩ := hv.read
  have BX : Hid (Below w.heap.size w (w.alloc (.cells #[.int .u64 S, .slice A R cap] 25))) := bel_alloc _ _
  clear hv hr hL r
  go_enter Try.func16, Try.ntmps16
  go_wp2_with fail
  refine (RC.out _ BX.out).mono ?_
  rintro e u1 ⟨rfl, b1⟩
  go_wp2_with fail
  go_ret
  exact ⟨rfl, bel_trans BX.out b1⟩
/-- What the loop of Get keeps: the sketch in its box, the numbers so far. -/
structure GetIn (w wr : World) (S : Int) (A : Option Addr) (cap R g : Nat) (z : Nat → Int) : Prop where
  since : Below w.heap.size w wr
  box : Blk wr w.heap.size 25 #[.int .u64 S, .slice A R cap]
  base : w.heap.size < g
  row : RowN wr g R z
theorem GetIn.below {w wr w2 : World} {S : Int} {A : Option Addr} {cap R g : Nat} {z : Nat → Int} (h : GetIn w wr S A cap R g z) (b : Below wr.heap.size wr w2) : GetIn w w2 S A cap R g z := ⟨bel_trans h.since b, h.box.since b, h.base, h.row.since b⟩
theorem GetIn.set {w wr : World} {S : Int} {A : Option Addr} {cap R g : Nat} {z : Nat → Int} (h : GetIn w wr S A cap R g z) (k : Nat) (x : Int) : GetIn w (wr.setCell ⟨g, k, none⟩ (.int .i64 x)) S A cap R g (fun i => if i = k then x else z i) := by
  have l := h.base
  exact ⟨h.since.setCell (p := ⟨g, k, none⟩) (by show w.heap.size ≤ g; omega) _, h.box.other (a := ⟨g, k, none⟩) (by show w.heap.size ≠ g; omega) _, h.base, h.row.set k x⟩
theorem GetIn.congr {w wr : World} {S : Int} {A : Option Addr} {cap R g : Nat} {z y : Nat → Int} (h : GetIn w wr S A cap R g z) (e : ∀ i, i < R → z i = y i) : GetIn w wr S A cap R g y := ⟨h.since, h.box, h.base, h.row.congr e⟩
set_option maxHeartbeats 4000000 in
theorem gget_ok (w : World) (x : Value) (S : Int) (R n : Nat) (Z : Nat → Nat → Int) (s : ByteArray) (h : SgAt w x S R (fun _ => n) Z) (ok : OkG R n Z) (uS : U S) (hs : s.size ≤ 100000) :
    Calls Try.prog 16 #[x, .string s] w fun e w' => e = .returned (.int .i64 (getG S R n Z s)) ∧ Below w.heap.size w w' := by
  obtain ⟨v, rfl, hv⟩ := h
  have RC : Hid (∀ w1, Below w.heap.size w w1 → Calls Try.prog 17 #[.agg #[.int .u64 S, v]] w1 fun e w' => e = .returned (.bool true) ∧ Below w1.heap.size w1 w') := fun w1 b1 => gright_yes ⟨v, rfl, hv.keep (keep_of_below b1)⟩ ok.right
  have r1 : 1 ≤ R := ok.1
  have hR : R ≤ 7 := ok.2.1
  have n0 : 1 ≤ n := ok.2.2.2.1
  have n1 : n ≤ 256 := ok.2.2.2.2.1
  have CE : Hid (∀ w1, Below w.heap.size w w1 → ∀ i, i < R → Calls Try.prog 31 #[.agg #[.int .u64 S, v], .string s, .int .i64 (i : Int)] w1 fun e w' => e = .returned (.int .i64 (cellN S s n i : Int)) ∧ Below w1.heap.size w1 w') := fun w1 b1 i hi => gcell_any w1 _ S R n Z s i ⟨v, rfl, hv.keep (keep_of_below b1)⟩ uS hs hi (by omega) n0 (by omega)
  have SI : Hid (∀ w1, Below w.heap.size w w1 → ∀ i, i < R → Calls Try.prog 32 #[.agg #[.int .u64 S, v], .string s, .int .i64 (i : Int)] w1 fun e w' => e = .returned (.int .i64 (sgnN S s i)) ∧ Below w1.heap.size w1 w') := fun w1 b1 i hi => gsign_any w1 _ S R n Z s i ⟨v, rfl, hv.keep (keep_of_below b1)⟩ uS hs (by omega)
  obtain ⟨A, cap, b, o, rfl, hc, hr⟩ := hv.read
  have RW : Hid (RowsCells w A R b o (fun _ => n) Z) := hr
  have OK : Hid (OkG R n Z) := ok
  have BX : Hid (Below w.heap.size w (w.alloc (.cells #[.int .u64 S, .slice A R cap] 25))) := bel_alloc _ _
  have KX : Hid (Blk (w.alloc (.cells #[.int .u64 S, .slice A R cap] 25)) w.heap.size 25 #[.int .u64 S, .slice A R cap]) := Blk.new _ _ _
  clear hv hr ok
  go_enter Try.func16, Try.ntmps16
  go_wp2_with fail
  refine (RC.out _ BX.out).mono ?_
  rintro e u1 ⟨rfl, b1⟩
  have B1 : Hid (Below w.heap.size w u1) := bel_trans BX.out b1
  have K1 : Hid (Blk u1 w.heap.size 25 #[.int .u64 S, .slice A R cap]) := KX.out.since b1
  have x2 : u1.cell? ⟨w.heap.size, 1, none⟩ = some (.slice A R cap) := K1.out.cell 1
  have y2 : ∀ o, (u1.alloc o).cell? ⟨w.heap.size, 1, none⟩ = some (.slice A R cap) := fun o => (K1.out.alloc o).cell 1
  have hmk : (Instr.makeSlice 33 (.int .i64 (R : Int)) (.int .i64 (R : Int))).run Try.prog u1 = .ok (.slice (some ⟨u1.heap.size, 0, none⟩) R R) (u1.alloc (.cells (madeCells #[.int .i64 0] R) 3)) := run_make_full (P := Try.prog) 33 3 (.int .i64 0) 8 Try.underlying33 info3 rfl .i64 .i64 R (by omega) (by omega) u1
  have GI : Hid (GetIn w (u1.alloc (.cells (madeCells #[.int .i64 0] R) 3)) S A cap R u1.heap.size (fun i => if i < 0 then ownG S n Z s i else 0)) := ⟨B1.out.alloc B1.out.size _, K1.out.alloc _, K1.out.lt, (grow_made u1 R).congr fun i _ => by simp⟩
  clear b1 BX KX RC K1 B1
  go_wp2_with fail
  clear hmk x2 y2
  generalize u1.alloc (.cells (madeCells #[.int .i64 0] R) 3) = u2 at GI ⊢
  generalize u1.heap.size = g at GI ⊢
  go_loopg [18] R (fun gk i wr => ∃ k : Nat, (gk = R - k ∧ k ≤ R ∧ GetIn w wr S A cap R g (fun i => if i < k then ownG S n Z s i else 0)) ∧ i = .int .i64 (k : Int))
  case atStart => exact ⟨0, ⟨rfl, by omega, GI.out⟩, rfl⟩
  case round =>
    clear GI
    obtain ⟨k, ⟨hg, hk, hI⟩, rfl⟩ := hrel
    have HK : Hid (gk = R - k ∧ GetIn w wr S A cap R g (fun i => if i < k then ownG S n Z s i else 0)) := ⟨hg, hI⟩
    have x2 : wr.cell? ⟨w.heap.size, 1, none⟩ = some (.slice A R cap) := hI.box.cell 1
    by_cases hlt : k < R
    · obtain ⟨rfl, A', cap', b', o', ck, lk, fk, gk'⟩ := RW.out k hlt
      obtain rfl := fk (by show 0 < n; omega)
      have ck := keep_of_below hI.since _ _ ck
      have bk : (k : Int) < (R : Int) := by omega
      have b0 : (0 : Int) ≤ (k : Int) := by omega
      obtain ⟨P, hP⟩ : ∃ P, P = cellN S s n k := ⟨_, rfl⟩
      have pl : P < n := by rw [hP]; exact cellN_lt S s n k n0
      have CP := gk' P pl
      obtain ⟨z, hz⟩ : ∃ z, z = Z k P := ⟨_, rfl⟩
      rw [← hz] at CP
      have CP : Hid (w.cell? ⟨b', o' + P, none⟩ = some (.int .i64 z)) := CP
      have pb : (P : Int) < (n : Int) := by omega
      have p0 : (0 : Int) ≤ (P : Int) := by omega
      obtain ⟨sg, hsg⟩ : ∃ sg, sg = sgnN S s k := ⟨_, rfl⟩
      obtain ⟨zs, hzs⟩ : ∃ zs, zs = z * sg := ⟨_, rfl⟩
      have zr := OK.out.fits hlt pl
      rw [← hz] at zr
      have qr := sgn_fits (sgnN_is S s k) zr.1 zr.2
      rw [← hsg, ← hzs] at qr
      obtain ⟨qr0, qr1⟩ := qr
      have HZ : Hid (zs = ownG S n Z s k) := by rw [hzs, hz, hsg, hP]; exact rfl
      have QS : z * sg = zs := hzs.symm
      have wq1 : IntKind.i64.wrap zs = zs := by rw [IntKind.wrap_i64]; omega
      have CK : Hid (∀ w1, Below w.heap.size w w1 → Calls Try.prog 31 #[.agg #[.int .u64 S, .slice (some ⟨b, o, none⟩) R cap], .string s, .int .i64 (k : Int)] w1 fun e w' => e = .returned (.int .i64 (P : Int)) ∧ Below w1.heap.size w1 w') := fun w1 b1 => by rw [hP]; exact CE.out w1 b1 k hlt
      have SK : Hid (∀ w1, Below w.heap.size w w1 → Calls Try.prog 32 #[.agg #[.int .u64 S, .slice (some ⟨b, o, none⟩) R cap], .string s, .int .i64 (k : Int)] w1 fun e w' => e = .returned (.int .i64 sg) ∧ Below w1.heap.size w1 w') := fun w1 b1 => by rw [hsg]; exact SI.out w1 b1 k hlt
      clear hg hI hP hz hsg hzs gk' lk zr
      go_wp2_with fail
      clear x2 ck
      have GD : Hid (GetIn w wr.drew S (some ⟨b, o, none⟩) cap R g (fun i => if i < k then ownG S n Z s i else 0)) := HK.out.2.below (Below.refl _ _).drew
      refine wp_region_noPanic ?_
      refine wp_region_held_drew (S := (fun w2 => Below w.heap.size w w2 ∧ Blk w2 w.heap.size 25 #[.int .u64 S, .slice (some ⟨b, o, none⟩) R cap])) (by kernel_rfl) ⟨GD.out.since, GD.out.box⟩ (fun hHeld => ?_)
      clear hHeld
      generalize wr.drew = v0 at GD ⊢
      have G0 := GD
      clear GD
      refine wpAnyH_take (i := 0) (v := ?_) rfl (by kernel_rfl) (by kernel_rfl) (by kernel_rfl) (fun _ _ _ h => h) (Or.inl ⟨by rfl, ?_⟩) ⟨G0.out.since, G0.out.box⟩ ?_
      rotate_left
      · intro wq hSw; go_simp; first | done | with_reducible rfl
      simp only [List.getElem_toArray, List.getElem_cons_zero, Act.put, List.setIfInBounds_toArray, List.set_cons_zero, List.set_cons_succ]
      refine wpAnyH_take (i := 1) (v := ?_) rfl (by kernel_rfl) (by kernel_rfl) (by kernel_rfl) (fun _ _ _ h => h) (Or.inl ⟨by rfl, ?_⟩) ⟨G0.out.since, G0.out.box⟩ ?_
      rotate_left
      · intro wq hSw; go_simp; first | done | with_reducible rfl
      simp only [List.getElem_toArray, List.getElem_cons_zero, List.getElem_cons_succ, Act.put, List.setIfInBounds_toArray, List.set_cons_zero, List.set_cons_succ]
      refine wpAnyH_take (i := 2) (v := ?_) rfl (by kernel_rfl) (by kernel_rfl) (by kernel_rfl) (fun _ _ _ h => h) (Or.inl ⟨by rfl, ?_⟩) ⟨G0.out.since, G0.out.box⟩ ?_
      rotate_left
      · intro wq hSw; go_simp; first | done | with_reducible rfl
      simp only [List.getElem_toArray, List.getElem_cons_zero, List.getElem_cons_succ, Act.put, List.setIfInBounds_toArray, List.set_cons_zero, List.set_cons_succ]
      refine wpAnyH_take (i := 3) (v := ?_) rfl (by kernel_rfl) (by kernel_rfl) (by kernel_rfl) (fun _ _ _ h => h) (Or.inl ⟨by rfl, ?_⟩) ⟨G0.out.since, G0.out.box⟩ ?_
      rotate_left
      · intro wq hSw; have cl0 := hSw.2.cell 0; have cl1 := hSw.2.cell 1; go_simp; first | done | with_reducible rfl
      simp only [List.getElem_toArray, List.getElem_cons_zero, List.getElem_cons_succ, Act.put, List.setIfInBounds_toArray, List.set_cons_zero, List.set_cons_succ]
      refine wpAnyH_take (i := 4) (v := ?_) rfl (by kernel_rfl) (by kernel_rfl) (by kernel_rfl) (fun _ _ _ h => h) (Or.inl ⟨by rfl, ?_⟩) ⟨G0.out.since, G0.out.box⟩ ?_
      rotate_left
      · intro wq hSw; go_simp; first | done | with_reducible rfl
      simp only [List.getElem_toArray, List.getElem_cons_zero, List.getElem_cons_succ, Act.put, List.setIfInBounds_toArray, List.set_cons_zero, List.set_cons_succ]
      refine wpAnyH_take (i := 5) (v := ?_) rfl (by kernel_rfl) (by kernel_rfl) (by kernel_rfl) (fun _ _ _ h => h) (Or.inl ⟨by rfl, ?_⟩) ⟨G0.out.since, G0.out.box⟩ ?_
      rotate_left
      · intro wq hSw; go_simp; first | done | with_reducible rfl
      simp only [List.getElem_toArray, List.getElem_cons_zero, List.getElem_cons_succ, Act.put, List.setIfInBounds_toArray, List.set_cons_zero, List.set_cons_succ]
      refine wpAnyH_take (i := 9) (v := ?_) rfl (by kernel_rfl) (by kernel_rfl) (by kernel_rfl) (fun _ _ _ h => h) (Or.inl ⟨by rfl, ?_⟩) ⟨G0.out.since, G0.out.box⟩ ?_
      rotate_left
      · intro wq hSw; have cl0 := hSw.2.cell 0; have cl1 := hSw.2.cell 1; go_simp; first | done | with_reducible rfl
      simp only [List.getElem_toArray, List.getElem_cons_zero, List.getElem_cons_succ, Act.put, List.setIfInBounds_toArray, List.set_cons_zero, List.set_cons_succ]
      refine wpAnyH_take (i := 10) (v := ?_) rfl (by kernel_rfl) (by kernel_rfl) (by kernel_rfl) (fun _ _ _ h => h) (Or.inl ⟨by rfl, ?_⟩) ⟨G0.out.since, G0.out.box⟩ ?_
      rotate_left
      · intro wq hSw; go_simp; first | done | with_reducible rfl
      simp only [List.getElem_toArray, List.getElem_cons_zero, List.getElem_cons_succ, Act.put, List.setIfInBounds_toArray, List.set_cons_zero, List.set_cons_succ]
      refine wpAnyH_take (i := 11) (v := ?_) rfl (by kernel_rfl) (by kernel_rfl) (by kernel_rfl) (fun _ _ _ h => h) (Or.inl ⟨by rfl, ?_⟩) ⟨G0.out.since, G0.out.box⟩ ?_
      rotate_left
      · intro wq hSw; go_simp; first | done | with_reducible rfl
      simp only [List.getElem_toArray, List.getElem_cons_zero, List.getElem_cons_succ, Act.put, List.setIfInBounds_toArray, List.set_cons_zero, List.set_cons_succ]
      refine wpAnyH_ready (rs := [6]) (by kernel_rfl) (by simp) ?_
      refine AllReadyH.cons rfl (fun K0 hK0 => ?_) ?_
      rotate_left
      · exact AllReadyH.nil
      refine step_func 31 #[.agg #[.int .u64 S, .slice (some ⟨b, o, none⟩) R cap], .string s, .int .i64 (k : Int)] (by rfl) rfl (by simp [Act.eval]) (fun _ _ => by kernel_rfl) ?_
      refine (CK.out _ G0.out.since).mono ?_
      rintro e v1 ⟨rfl, bb⟩
      have G1 : Hid (GetIn w v1 S (some ⟨b, o, none⟩) cap R g (fun i => if i < k then ownG S n Z s i else 0)) := G0.out.below bb
      clear bb
      refine ⟨_, rfl, ?_⟩
      refine hK0.out _ _ (by exact ⟨G1.out.since, G1.out.box⟩) (fun hHeld => ?_)
      clear hK0 K0 hHeld
      refine wpAnyH_take (i := 7) (v := ?_) rfl (by kernel_rfl) (by kernel_rfl) (by kernel_rfl) (fun _ _ _ h => h) (Or.inl ⟨by rfl, ?_⟩) ⟨G1.out.since, G1.out.box⟩ ?_
      rotate_left
      · intro wq hSw; go_simp; first | done | with_reducible rfl
      simp only [List.getElem_toArray, List.getElem_cons_zero, List.getElem_cons_succ, Act.put, List.setIfInBounds_toArray, List.set_cons_zero, List.set_cons_succ]
      refine wpAnyH_take (i := 8) (v := ?_) rfl (by kernel_rfl) (by kernel_rfl) (by kernel_rfl) (fun _ _ _ h => h) (Or.inl ⟨by rfl, ?_⟩) ⟨G1.out.since, G1.out.box⟩ ?_
      rotate_left
      · intro wq hSw; have cl0 := keep_of_below hSw.1 _ _ CP.out; go_simp; first | done | with_reducible rfl
      simp only [List.getElem_toArray, List.getElem_cons_zero, List.getElem_cons_succ, Act.put, List.setIfInBounds_toArray, List.set_cons_zero, List.set_cons_succ]
      refine wpAnyH_ready (rs := [12]) (by kernel_rfl) (by simp) ?_
      refine AllReadyH.cons rfl (fun K0 hK0 => ?_) ?_
      rotate_left
      · exact AllReadyH.nil
      refine step_func 32 #[.agg #[.int .u64 S, .slice (some ⟨b, o, none⟩) R cap], .string s, .int .i64 (k : Int)] (by rfl) rfl (by simp [Act.eval]) (fun _ _ => by kernel_rfl) ?_
      refine (SK.out _ G1.out.since).mono ?_
      rintro e v2 ⟨rfl, bb⟩
      have G2 : Hid (GetIn w v2 S (some ⟨b, o, none⟩) cap R g (fun i => if i < k then ownG S n Z s i else 0)) := G1.out.below bb
      clear bb
      refine ⟨_, rfl, ?_⟩
      refine hK0.out _ _ (by exact ⟨G2.out.since, G2.out.box⟩) (fun hHeld => ?_)
      clear hK0 K0 hHeld
      refine wpAnyH_take (i := 13) (v := ?_) rfl (by kernel_rfl) (by kernel_rfl) (by kernel_rfl) (fun _ _ _ h => h) (Or.inl ⟨by rfl, ?_⟩) ⟨G2.out.since, G2.out.box⟩ ?_
      rotate_left
      · intro wq hSw; go_simp; first | done | with_reducible rfl
      simp only [List.getElem_toArray, List.getElem_cons_zero, List.getElem_cons_succ, Act.put, List.setIfInBounds_toArray, List.set_cons_zero, List.set_cons_succ]
      refine wpAnyH_take (i := 14) (v := ?_) rfl (by kernel_rfl) (by kernel_rfl) (by kernel_rfl) (fun _ _ _ h => h) (Or.inl ⟨by rfl, ?_⟩) ⟨G2.out.since, G2.out.box⟩ ?_
      rotate_left
      · intro wq hSw; go_simp; first | done | with_reducible rfl
      simp only [List.getElem_toArray, List.getElem_cons_zero, List.getElem_cons_succ, Act.put, List.setIfInBounds_toArray, List.set_cons_zero, List.set_cons_succ]
      have NX : Hid (GetIn w (v2.setCell ⟨g, k, none⟩ (.int .i64 zs)) S (some ⟨b, o, none⟩) cap R g (fun i => if i < k + 1 then ownG S n Z s i else 0)) := (G2.out.set k zs).congr fun i hi => by
        by_cases e : i = k
        · rw [if_pos e, if_pos (by omega), e, HZ.out]
        · rw [if_neg e]
          by_cases e2 : i < k
          · rw [if_pos e2, if_pos (by omega)]
          · rw [if_neg e2, if_neg (by omega)]
      have cs := G2.out.row.cell hlt
      have cf := G2.out.row.frozen k
      refine wpAnyH_ready (rs := [15]) (by kernel_rfl) (by simp) ?_
      refine AllReadyH.cons rfl (fun K0 hK0 => ?_) ?_
      rotate_left
      · exact AllReadyH.nil
      go_simp
      clear cs cf
      refine hK0.out _ _ (by exact ⟨NX.out.since, NX.out.box⟩) (fun hHeld => ?_)
      clear hK0 K0 hHeld
      refine wpAnyH_done (by kernel_rfl) ?_ _
      refine NoPanic.normal ?_
      go_wp2_with fail
      go_roundg (R - (k + 1))
      case measure => have := HK.out.1; omega
      case rel => exact ⟨k + 1, ⟨rfl, by omega, NX.out⟩, by go_num⟩
    · have e : k = R := by omega
      have HE : Hid (k = R) := e
      have b1 : ¬ (k : Int) < (R : Int) := by omega
      have ST : Hid (Calls Try.prog 33 #[.slice (some ⟨g, 0, none⟩) R R] wr fun e w' => e = .returned (.tuple #[]) ∧ RowN w' g R (fun i => (sortL (ownG S n Z s) R).getD i 0) ∧ Below w.heap.size wr w') := by
        have t := gsort_any wr g R R w.heap.size (ownG S n Z s) (hI.row.congr fun i hi => by rw [e, if_pos hi]) (by omega) (by have := hI.base; omega)
        exact t
      clear e hg hI hlt x2
      go_wp2_with fail
      refine ST.out.mono ?_
      rintro e u3 ⟨rfl, rw3, b3⟩
      have B3 : Hid (Below w.heap.size w u3) := HK.out.2.since.trans b3
      have c3 : u3.cell? ⟨g, R / 2, none⟩ = some (.int .i64 (getG S R n Z s)) := rw3.cell (by omega)
      have d3 : (R : Int) / 2 = ((R / 2 : Nat) : Int) := by omega
      have d4 : ((R / 2 : Nat) : Int) < (R : Int) := by omega
      have d5 : (0 : Int) ≤ ((R / 2 : Nat) : Int) := by omega
      have d6 : Int.tdiv (R : Int) 2 = ((R / 2 : Nat) : Int) := by rw [Int.tdiv_eq_ediv_of_nonneg (by omega)]; omega
      obtain ⟨G, hG⟩ : ∃ G, G = getG S R n Z s := ⟨_, rfl⟩
      rw [← hG] at c3
      have HG : Hid (G = getG S R n Z s) := hG
      clear hG
      generalize R / 2 = H at c3 d3 d4 d5 d6
      clear rw3 b3 ST
      go_wp2_with fail
      go_ret
      exact ⟨ret_int HG.out, B3.out⟩
end Go.Proofs.Ytpjpgcjlbfgkdaa
