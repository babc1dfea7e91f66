
/-
  Add of the document (layer 12): what it answers.
-/
import Derived.Test.YtpjpgcjlbfgkdaaSgnRGet
namespace Go.Proofs.Ytpjpgcjlbfgkdaa
open Go.RowKit Fm Bl Sg L2 Go.Deep
set_option linter.unusedVariables false

/-- The first k rows fit; the first c numbers of a row fit. -/
def RowsFit (Y : Nat → Nat → Int) (k n : Nat) : Prop := ∀ r, r < k → ∀ j, j < n → FitsI (Y r j)
def RowFit (Y : Nat → Nat → Int) (k c : Nat) : Prop := ∀ j, j < c → FitsI (Y k j)
/-- A bool that tells something. -/
def SaysB (B : Bool) (P : Prop) : Prop := B = true ↔ P
theorem saysB_start (Y : Nat → Nat → Int) (n : Nat) : SaysB true (RowsFit Y 0 n) := ⟨fun _ => fun r hr => by omega, fun _ => rfl⟩
theorem saysB_in {B : Bool} {Y : Nat → Nat → Int} {k n : Nat} (h : SaysB B (RowsFit Y k n)) : SaysB B (RowsFit Y k n ∧ RowFit Y k 0) := ⟨fun e => ⟨h.1 e, fun j hj => by omega⟩, fun e => h.2 e.1⟩
theorem saysB_yes {Y : Nat → Nat → Int} {k n c : Nat} {v : Int} (h : SaysB true (RowsFit Y k n ∧ RowFit Y k c)) (hv : v = Y k c) : SaysB (fitsB1 v) (RowsFit Y k n ∧ RowFit Y k (c + 1)) := by
  obtain ⟨h1, h2⟩ := h.1 rfl
  by_cases f : FitsI v
  · rw [fitsB1_yes f]
    refine ⟨fun _ => ⟨h1, fun j hj => ?_⟩, fun _ => rfl⟩
    by_cases e : j = c
    · rw [e, ← hv]; exact f
    · exact h2 j (by omega)
  · rw [fitsB1_no f]
    exact ⟨(fun e => by cases e), fun e => absurd (e.2 c (by omega)) (by rw [← hv]; exact f)⟩
theorem saysB_no {Y : Nat → Nat → Int} {k n c : Nat} (h : SaysB false (RowsFit Y k n ∧ RowFit Y k c)) : SaysB false (RowsFit Y k n ∧ RowFit Y k (c + 1)) := ⟨(fun e => by cases e), fun e => h.2 ⟨e.1, fun j hj => e.2 j (by omega)⟩⟩
theorem saysB_row {B : Bool} {Y : Nat → Nat → Int} {k n c : Nat} (h : SaysB B (RowsFit Y k n ∧ RowFit Y k c)) (e : c = n) : SaysB B (RowsFit Y (k + 1) n) := by
  subst e
  refine ⟨fun b => fun r hr j hj => ?_, fun f => h.2 ⟨fun r hr j hj => f r (by omega) j hj, fun j hj => f k (by omega) j hj⟩⟩
  obtain ⟨h1, h2⟩ := h.1 b
  by_cases er : r = k
  · rw [er]; exact h2 j hj
  · exact h1 r (by omega) j hj
theorem saysB_ok {B : Bool} {R n : Nat} {Z Y : Nat → Nat → Int} (h : SaysB B (RowsFit Y R n)) (ok : OkG R n Z) : SaysB B (OkG R n Y) :=
  ⟨fun b => ⟨ok.1, ok.2.1, ok.2.2.1, ok.2.2.2.1, ok.2.2.2.2.1, h.1 b⟩, fun f => h.2 f.2.2.2.2.2⟩
/-- A sketch that is told, and whether it is right. -/
def ToldG (w : World) (S : Int) (R n : Nat) (Y : Nat → Nat → Int) (e : Ending) (w' : World) : Prop := ∃ (x : Value) (B : Bool), e = .returned (.tuple #[x, .bool B]) ∧ SgAt w' x S R (fun _ => n) Y ∧ SaysB B (OkG R n Y) ∧ Below w.heap.size w w'
set_option maxRecDepth 8000 in
set_option maxHeartbeats 6400000 in
theorem hadd_any (w : World) (x : Value) (S : Int) (R n : Nat) (Z : Nat → Nat → Int) (s : ByteArray) (q : Int) (h : SgAt w x S R (fun _ => n) Z) (ok : OkG R n Z) (uS : U S) (hs : s.size ≤ 100000) (hq : FitsI q) :
    Calls Try.prog 22 #[x, .string s, .int .i64 q] w (ToldG w S R n (addG S n Z s q)) := by
  obtain ⟨v, rfl, hv⟩ := h
  obtain ⟨q0, q1⟩ := hq
  have hR : R ≤ 7 := ok.2.1
  have n0 : 1 ≤ n := ok.2.2.2.1
  have n1 : n ≤ 256 := ok.2.2.2.2.1
  have OK : Hid (OkG R n Z) := ok
  obtain ⟨A, cap, b, o, rfl, hc, hr⟩ := hv.read
  have RW : Hid (RowsCells w A R b o (fun _ => n) Z) := hr
  have BX : Hid (Below w.heap.size w ((w.alloc (.cells #[.int .u64 S, .slice A R cap] 30)).alloc (.cells #[.int .u64 0, .slice none 0 0] 30))) := (bel_alloc _ _).alloc (by simp) _
  have KX : Hid (Blk ((w.alloc (.cells #[.int .u64 S, .slice A R cap] 30)).alloc (.cells #[.int .u64 0, .slice none 0 0] 30)) w.heap.size 30 #[.int .u64 S, .slice A R cap]) := (Blk.new _ _ _).alloc _
  have KR : Hid (Blk ((w.alloc (.cells #[.int .u64 S, .slice A R cap] 30)).alloc (.cells #[.int .u64 0, .slice none 0 0] 30)) (w.heap.size + 1) 30 #[.int .u64 0, .slice none 0 0]) := by
    have e := Blk.new (w.alloc (.cells #[.int .u64 S, .slice A R cap] 30)) 30 #[.int .u64 0, .slice none 0 0]
    simp only [World.size_alloc] at e
    exact e
  obtain ⟨i3, hi, hz0, hz1, hz2⟩ := info3'
  have HI : Hid (Try.prog.info? 3 = some i3 ∧ i3.zero = some (.int .i64 0) ∧ i3.size = 1 ∧ i3.bytes = 8) := ⟨hi, hz0, hz1, hz2⟩
  clear hi hz0 hz1 hz2
  obtain ⟨ir, ri, rz0, rz1, rz2⟩ := info33'
  have HR : Hid (Try.prog.info? 33 = some ir ∧ ir.zero = some (.slice none 0 0) ∧ ir.size = 1 ∧ ir.bytes = 24) := ⟨ri, rz0, rz1, rz2⟩
  clear ri rz0 rz1 rz2
  clear hv hr ok
  go_enter Try.func22, Try.ntmps22
  go_wp2_with fail
  generalize ((w.alloc (.cells #[.int .u64 S, .slice A R cap] 30)).alloc (.cells #[.int .u64 0, .slice none 0 0] 30)) = u0 at *
  have LS : Hid (w.heap.size + 1 < u0.heap.size) := KR.out.lt
  go_loopg [8, 9, 10] R (fun gk p l i wr => ∃ (k : Nat) (ao : Option Addr) (cv : Nat) (B : Bool), (gk = R - k ∧ k ≤ R ∧ (∃ V G, LinG u0 wr (.slice ao k cv) k n V G (addG S n Z s q)) ∧ SaysB B (RowsFit (addG S n Z s q) k n)) ∧ p = .bool B ∧ l = .slice ao k cv ∧ i = .int .i64 (k : Int))
  case atStart => exact ⟨0, none, 0, true, ⟨rfl, by omega, ⟨fun _ => .slice none 0 0, fun _ => 0, lin_start _ _ _ _ _⟩, saysB_start _ _⟩, rfl, rfl, rfl⟩
  case round =>
    obtain ⟨k, ao, cv, B0, ⟨hg, hk, ⟨V, G, hA⟩, hB⟩, rfl, rfl, rfl⟩ := hrel
    have HK : Hid (gk = R - k ∧ LinG u0 wr (.slice ao k cv) k n V G (addG S n Z s q) ∧ SaysB B0 (RowsFit (addG S n Z s q) k n)) := ⟨hg, hA, hB⟩
    have x0 : wr.cell? ⟨w.heap.size, 0, none⟩ = some (.int .u64 S) := (KX.out.since hA.since).cell 0
    have x2 : wr.cell? ⟨w.heap.size, 1, none⟩ = some (.slice A R cap) := (KX.out.since hA.since).cell 1
    by_cases hlt : k < R
    · obtain ⟨rfl, A', cap', b', o', ck0, lk, fk, gk'⟩ := RW.out k hlt
      obtain rfl := fk (by show 0 < n; omega)
      have bk : (k : Int) < (R : Int) := by omega
      have b0 : (0 : Int) ≤ (k : Int) := by omega
      obtain ⟨P, hP⟩ : ∃ P, P = cellN S s n k := ⟨_, rfl⟩
      have HP : Hid (P = cellN S s n k) := hP
      obtain ⟨sg, hsg⟩ : ∃ sg, sg = sgnN S s k := ⟨_, rfl⟩
      obtain ⟨qs, hqs⟩ : ∃ qs, qs = q * sg := ⟨_, rfl⟩
      have qr := sgn_fits (sgnN_is S s k) q0 q1
      rw [← hsg, ← hqs] at qr
      obtain ⟨qr0, qr1⟩ := qr
      have QS : q * sg = qs := hqs.symm
      have wq1 : IntKind.i64.wrap qs = qs := by rw [IntKind.wrap_i64]; omega
      have HQ : Hid (qs = q * sgnN S s k) := by rw [hqs, hsg]; exact rfl
      have D1 : Hid (w.cell? ⟨b, o + k, none⟩ = some (.slice (some ⟨b', o', none⟩) n cap')) := ck0
      have D2 : Hid (∀ j, j < n → w.cell? ⟨b', o' + j, none⟩ = some (.int .i64 (Z k j))) := gk'
      have CE : Hid (∀ w1, Calls Try.prog 19 #[.int .u64 S, .string s, .int .i64 (k : Int), .int .i64 (n : Int)] w1 fun e w' => e = .returned (.int .i64 (P : Int)) ∧ Below w1.heap.size w1 w') := fun w1 => by
        rw [hP]; exact hcell_any S s k n w1 uS hs (by omega) n0 (by omega)
      have SI : Hid (∀ w1, Calls Try.prog 37 #[.int .u64 S, .string s, .int .i64 (k : Int)] w1 fun e w' => e = .returned (.int .i64 sg) ∧ Below w1.heap.size w1 w') := fun w1 => by
        rw [hsg]; exact hsign_any S s k w1 uS hs (by omega)
      have LD : Hid (LinG u0 wr.drew (.slice ao k cv) k n V G (addG S n Z s q)) := hA.keep ((Below.refl _ _).drew)
      have BD : Hid (Below w.heap.size w wr.drew) := bel_trans BX.out LD.out.since
      have KD : Hid (Blk wr.drew w.heap.size 30 #[.int .u64 S, .slice (some ⟨b, o, none⟩) R cap]) := KX.out.since LD.out.since
      clear hg hA hB hP hsg hqs gk' lk ck0 fk
      go_wp2_with fail
      clear x0 x2
      refine wp_region_noPanic ?_
      refine wp_region_held_drew (S := (fun w' => Below w.heap.size w w' ∧ Blk w' w.heap.size 30 #[.int .u64 S, .slice (some ⟨b, o, none⟩) R cap])) (by kernel_rfl) ⟨BD.out, KD.out⟩ (fun hHeld => ?_)
      clear hHeld
      generalize wr.drew = v0 at BD KD LD ⊢
      refine wpAnyH_take (i := 0) (v := ?_) rfl (by kernel_rfl) (by kernel_rfl) (by kernel_rfl) (fun _ _ _ h => h) (Or.inl ⟨by rfl, ?_⟩) ⟨BD.out, KD.out⟩ ?_
      rotate_left
      · intro wq hSw; go_simp; first | done | with_reducible rfl
      simp only [List.getElem_toArray, List.getElem_cons_zero, Act.put, List.setIfInBounds_toArray, List.set_cons_zero, List.set_cons_succ]
      refine wpAnyH_take (i := 1) (v := ?_) rfl (by kernel_rfl) (by kernel_rfl) (by kernel_rfl) (fun _ _ _ h => h) (Or.inl ⟨by rfl, ?_⟩) ⟨BD.out, KD.out⟩ ?_
      rotate_left
      · intro wq hSw; have cl0 := hSw.2.cell 0; go_simp; first | done | with_reducible rfl
      simp only [List.getElem_toArray, List.getElem_cons_zero, List.getElem_cons_succ, Act.put, List.setIfInBounds_toArray, List.set_cons_zero, List.set_cons_succ]
      refine wpAnyH_take (i := 2) (v := ?_) rfl (by kernel_rfl) (by kernel_rfl) (by kernel_rfl) (fun _ _ _ h => h) (Or.inl ⟨by rfl, ?_⟩) ⟨BD.out, KD.out⟩ ?_
      rotate_left
      · intro wq hSw; go_simp; first | done | with_reducible rfl
      simp only [List.getElem_toArray, List.getElem_cons_zero, List.getElem_cons_succ, Act.put, List.setIfInBounds_toArray, List.set_cons_zero, List.set_cons_succ]
      refine wpAnyH_take (i := 3) (v := ?_) rfl (by kernel_rfl) (by kernel_rfl) (by kernel_rfl) (fun _ _ _ h => h) (Or.inl ⟨by rfl, ?_⟩) ⟨BD.out, KD.out⟩ ?_
      rotate_left
      · intro wq hSw; go_simp; first | done | with_reducible rfl
      simp only [List.getElem_toArray, List.getElem_cons_zero, List.getElem_cons_succ, Act.put, List.setIfInBounds_toArray, List.set_cons_zero, List.set_cons_succ]
      refine wpAnyH_take (i := 4) (v := ?_) rfl (by kernel_rfl) (by kernel_rfl) (by kernel_rfl) (fun _ _ _ h => h) (Or.inl ⟨by rfl, ?_⟩) ⟨BD.out, KD.out⟩ ?_
      rotate_left
      · intro wq hSw; go_simp; first | done | with_reducible rfl
      simp only [List.getElem_toArray, List.getElem_cons_zero, List.getElem_cons_succ, Act.put, List.setIfInBounds_toArray, List.set_cons_zero, List.set_cons_succ]
      refine wpAnyH_take (i := 5) (v := ?_) rfl (by kernel_rfl) (by kernel_rfl) (by kernel_rfl) (fun _ _ _ h => h) (Or.inl ⟨by rfl, ?_⟩) ⟨BD.out, KD.out⟩ ?_
      rotate_left
      · intro wq hSw; have cl0 := hSw.2.cell 1; go_simp; first | done | with_reducible rfl
      simp only [List.getElem_toArray, List.getElem_cons_zero, List.getElem_cons_succ, Act.put, List.setIfInBounds_toArray, List.set_cons_zero, List.set_cons_succ]
      refine wpAnyH_take (i := 6) (v := ?_) rfl (by kernel_rfl) (by kernel_rfl) (by kernel_rfl) (fun _ _ _ h => h) (Or.inl ⟨by rfl, ?_⟩) ⟨BD.out, KD.out⟩ ?_
      rotate_left
      · intro wq hSw; go_simp; first | done | with_reducible rfl
      simp only [List.getElem_toArray, List.getElem_cons_zero, List.getElem_cons_succ, Act.put, List.setIfInBounds_toArray, List.set_cons_zero, List.set_cons_succ]
      refine wpAnyH_take (i := 7) (v := ?_) rfl (by kernel_rfl) (by kernel_rfl) (by kernel_rfl) (fun _ _ _ h => h) (Or.inl ⟨by rfl, ?_⟩) ⟨BD.out, KD.out⟩ ?_
      rotate_left
      · intro wq hSw; go_simp; first | done | with_reducible rfl
      simp only [List.getElem_toArray, List.getElem_cons_zero, List.getElem_cons_succ, Act.put, List.setIfInBounds_toArray, List.set_cons_zero, List.set_cons_succ]
      refine wpAnyH_take (i := 8) (v := ?_) rfl (by kernel_rfl) (by kernel_rfl) (by kernel_rfl) (fun _ _ _ h => h) (Or.inl ⟨by rfl, ?_⟩) ⟨BD.out, KD.out⟩ ?_
      rotate_left
      · intro wq hSw; have cl0 := keep_of_below hSw.1 _ _ D1.out; go_simp; first | done | with_reducible rfl
      simp only [List.getElem_toArray, List.getElem_cons_zero, List.getElem_cons_succ, Act.put, List.setIfInBounds_toArray, List.set_cons_zero, List.set_cons_succ]
      refine wpAnyH_take (i := 9) (v := ?_) rfl (by kernel_rfl) (by kernel_rfl) (by kernel_rfl) (fun _ _ _ h => h) (Or.inl ⟨by rfl, ?_⟩) ⟨BD.out, KD.out⟩ ?_
      rotate_left
      · intro wq hSw; go_simp; first | done | with_reducible rfl
      simp only [List.getElem_toArray, List.getElem_cons_zero, List.getElem_cons_succ, Act.put, List.setIfInBounds_toArray, List.set_cons_zero, List.set_cons_succ]
      refine wpAnyH_ready (rs := [10]) (by kernel_rfl) (by simp) ?_
      refine AllReadyH.cons rfl (fun K0 hK0 => ?_) ?_
      rotate_left
      · exact AllReadyH.nil
      refine step_func 19 #[.int .u64 S, .string s, .int .i64 (k : Int), .int .i64 (n : Int)] (by rfl) rfl (by simp [Act.eval]) (fun _ _ => by kernel_rfl) ?_
      refine (CE.out _).mono ?_
      rintro e w5 ⟨rfl, cb5⟩
      have B5 : Hid (Below w.heap.size w w5) := bel_trans BD.out cb5
      have K5 : Hid (Blk w5 w.heap.size 30 #[.int .u64 S, .slice (some ⟨b, o, none⟩) R cap]) := KD.out.since cb5
      have L5 : Hid (LinG u0 w5 (.slice ao k cv) k n V G (addG S n Z s q)) := LD.out.keep cb5
      clear cb5
      refine ⟨_, rfl, ?_⟩
      refine hK0.out _ _ (by exact ⟨B5.out, K5.out⟩) (fun hHeld => ?_)
      clear hK0 K0 hHeld
      refine wpAnyH_take (i := 11) (v := ?_) rfl (by kernel_rfl) (by kernel_rfl) (by kernel_rfl) (fun _ _ _ h => h) (Or.inl ⟨by rfl, ?_⟩) ⟨B5.out, K5.out⟩ ?_
      rotate_left
      · intro wq hSw; go_simp; first | done | with_reducible rfl
      simp only [List.getElem_toArray, List.getElem_cons_zero, List.getElem_cons_succ, Act.put, List.setIfInBounds_toArray, List.set_cons_zero, List.set_cons_succ]
      refine wpAnyH_done (by kernel_rfl) ?_ _
      refine NoPanic.normal ?_
      clear CE LD
      go_wp2_with fail
      go_loopg [8, 11, 13] n (fun gj p r i wi => ∃ (c : Nat) (ao' : Option Addr) (cv' : Nat) (B : Bool), (gj = n - c ∧ c ≤ n ∧ GrowI w5 wi (.slice ao' c cv') c ((addG S n Z s q) k) ∧ SaysB B (RowsFit (addG S n Z s q) k n ∧ RowFit (addG S n Z s q) k c)) ∧ p = .bool B ∧ r = .slice ao' c cv' ∧ i = .int .i64 (c : Int))
      case atStart => exact ⟨0, none, 0, B0, ⟨rfl, by omega, growI_start _ _, saysB_in HK.out.2.2⟩, rfl, rfl, rfl⟩
      case round =>
        obtain ⟨c, ai, ci, B, ⟨hg, hc2, hI, hB⟩, rfl, rfl, rfl⟩ := hrel
        have HJ : Hid (gk = n - c ∧ GrowI w5 wr (.slice ai c ci) c ((addG S n Z s q) k) ∧ SaysB B (RowsFit (addG S n Z s q) k n ∧ RowFit (addG S n Z s q) k c)) := ⟨hg, hI, hB⟩
        have x0 : wr.cell? ⟨w.heap.size, 0, none⟩ = some (.int .u64 S) := (K5.out.since hI.since).cell 0
        have x2 : wr.cell? ⟨w.heap.size, 1, none⟩ = some (.slice (some ⟨b, o, none⟩) R cap) := (K5.out.since hI.since).cell 1
        have ck : wr.cell? ⟨b, o + k, none⟩ = some (.slice (some ⟨b', o', none⟩) n cap') := keep_of_below (bel_trans B5.out hI.since) _ _ D1.out
        by_cases hcl : c < n
        · have bc : (c : Int) < (n : Int) := by omega
          have bc0 : (0 : Int) ≤ (c : Int) := by omega
          obtain ⟨z, hz⟩ : ∃ z, z = Z k c := ⟨_, rfl⟩
          have cc : wr.cell? ⟨b', o' + c, none⟩ = some (.int .i64 z) := by rw [hz]; exact keep_of_below (bel_trans B5.out hI.since) _ _ (D2.out c hcl)
          have zr := OK.out.fits hlt hcl
          rw [← hz] at zr
          obtain ⟨zr0, zr1⟩ := zr
          have HZ : Hid (z = Z k c) := hz
          have hsz : w5.heap.size ≤ wr.heap.size := hI.since.size
          clear hg hI hB hz
          by_cases d1 : c = P
          · have e1 : ((c : Int) == (P : Int)) = true := by simp; omega
            have EV : Hid (z + qs = (addG S n Z s q) k c) := by
              show z + qs = if c = cellN S s n k then Z k c + q * sgnN S s k else Z k c
              rw [if_pos (by rw [← HP.out]; exact d1), HZ.out, HQ.out]
            have wq2 : IntKind.i64.wrap (z + qs) = z + qs := by rw [IntKind.wrap_i64]; omega
            clear d1
            go_wp2_with fail
            refine (SI.out _).mono ?_
            rintro e u6 ⟨rfl, b6⟩
            have G6 : Hid (GrowI w5 u6 (.slice ai c ci) c ((addG S n Z s q) k)) := HJ.out.2.1.keep b6
            have hsz : w5.heap.size ≤ u6.heap.size := G6.out.since.size
            clear b6 x0 x2 ck cc
            cases B with
            | true =>
              go_wp2_with fail
              refine (hfits_any _ _).mono ?_
              rintro e u7 ⟨rfl, hw7⟩
              obtain rfl := hw7
              go_wp2_with (at_builtin; refine wpList_append_lies _ rfl _ _ _ rfl w5.heap.size 3 i3 (.int .i64 0) 1 8 Try.underlying33 HI.out.1 HI.out.2.1 HI.out.2.2.1 HI.out.2.2.2 rfl (by omega) (.slice ai c ci) c (cellsI c ((addG S n Z s q) k)) (by rfl) (G6.out.own.alloc _) ⟨u7.heap.size, 0, none⟩ 1 1 [.int .i64 (z + qs)] (by rfl) rfl (new_int u7 _) (fun u hu => by rw [List.mem_singleton.1 hu]; rfl) (by omega) (by unfold maxLen; omega) (by omega) (by simp; omega) (u7.heap.size + 1) (by simp) ?_; intro g cap1 w3 hown1 hgrow hat hlt1)
              go_roundg (n - (c + 1))
              case measure => have := HJ.out.1; omega
              case rel => exact ⟨c + 1, _, _, fitsB1 (z + qs), ⟨rfl, by omega, G6.out.step EV.out hown1 hgrow, saysB_yes HJ.out.2.2 EV.out⟩, rfl, rfl, by go_num⟩
            | false =>
              go_wp2_with (at_builtin; refine wpList_append_lies _ rfl _ _ _ rfl w5.heap.size 3 i3 (.int .i64 0) 1 8 Try.underlying33 HI.out.1 HI.out.2.1 HI.out.2.2.1 HI.out.2.2.2 rfl (by omega) (.slice ai c ci) c (cellsI c ((addG S n Z s q) k)) (by rfl) (G6.out.own.alloc _) ⟨u6.heap.size, 0, none⟩ 1 1 [.int .i64 (z + qs)] (by rfl) rfl (new_int u6 _) (fun u hu => by rw [List.mem_singleton.1 hu]; rfl) (by omega) (by unfold maxLen; omega) (by omega) (by simp; omega) (u6.heap.size + 1) (by simp) ?_; intro g cap1 w3 hown1 hgrow hat hlt1)
              go_roundg (n - (c + 1))
              case measure => have := HJ.out.1; omega
              case rel => exact ⟨c + 1, _, _, false, ⟨rfl, by omega, G6.out.step EV.out hown1 hgrow, saysB_no HJ.out.2.2⟩, rfl, rfl, by go_num⟩
          · have e1 : ((c : Int) == (P : Int)) = false := by simp; omega
            have EV : Hid (z = (addG S n Z s q) k c) := by
              show z = if c = cellN S s n k then Z k c + q * sgnN S s k else Z k c
              rw [if_neg (by rw [← HP.out]; exact d1), HZ.out]
            have G6 : Hid (GrowI w5 wr (.slice ai c ci) c ((addG S n Z s q) k)) := HJ.out.2.1
            clear d1
            cases B with
            | true =>
              go_wp2_with fail
              refine (hfits_any _ _).mono ?_
              rintro e u7 ⟨rfl, hw7⟩
              obtain rfl := hw7
              go_wp2_with (at_builtin; refine wpList_append_lies _ rfl _ _ _ rfl w5.heap.size 3 i3 (.int .i64 0) 1 8 Try.underlying33 HI.out.1 HI.out.2.1 HI.out.2.2.1 HI.out.2.2.2 rfl (by omega) (.slice ai c ci) c (cellsI c ((addG S n Z s q) k)) (by rfl) (G6.out.own.alloc _) ⟨u7.heap.size, 0, none⟩ 1 1 [.int .i64 z] (by rfl) rfl (new_int u7 _) (fun u hu => by rw [List.mem_singleton.1 hu]; rfl) (by omega) (by unfold maxLen; omega) (by omega) (by simp; omega) (u7.heap.size + 1) (by simp) ?_; intro g cap1 w3 hown1 hgrow hat hlt1)
              go_roundg (n - (c + 1))
              case measure => have := HJ.out.1; omega
              case rel => exact ⟨c + 1, _, _, fitsB1 (z), ⟨rfl, by omega, G6.out.step EV.out hown1 hgrow, saysB_yes HJ.out.2.2 EV.out⟩, rfl, rfl, by go_num⟩
            | false =>
              go_wp2_with (at_builtin; refine wpList_append_lies _ rfl _ _ _ rfl w5.heap.size 3 i3 (.int .i64 0) 1 8 Try.underlying33 HI.out.1 HI.out.2.1 HI.out.2.2.1 HI.out.2.2.2 rfl (by omega) (.slice ai c ci) c (cellsI c ((addG S n Z s q) k)) (by rfl) (G6.out.own.alloc _) ⟨wr.heap.size, 0, none⟩ 1 1 [.int .i64 z] (by rfl) rfl (new_int wr _) (fun u hu => by rw [List.mem_singleton.1 hu]; rfl) (by omega) (by unfold maxLen; omega) (by omega) (by simp; omega) (wr.heap.size + 1) (by simp) ?_; intro g cap1 w3 hown1 hgrow hat hlt1)
              go_roundg (n - (c + 1))
              case measure => have := HJ.out.1; omega
              case rel => exact ⟨c + 1, _, _, false, ⟨rfl, by omega, G6.out.step EV.out hown1 hgrow, saysB_no HJ.out.2.2⟩, rfl, rfl, by go_num⟩
        · have HE : Hid (c = n) := (by omega : c = n)
          have bc : ¬ (c : Int) < (n : Int) := by omega
          have hn : c = n := by omega
          subst hn
          obtain ⟨gr, capr, ev, hcr, hgr, hrow⟩ := hI.row n0
          have HRW : Hid (c ≤ capr ∧ w5.heap.size ≤ gr ∧ RowN wr gr c ((addG S c Z s q) k) ∧ Below w5.heap.size w5 wr) := ⟨hcr, hgr, hrow, hI.since⟩
          have LW : Hid (LinG u0 wr (.slice ao k cv) k c V G (addG S c Z s q)) := L5.out.keep hI.since
          have hsz : u0.heap.size ≤ wr.heap.size := LW.out.since.size
          cases ev
          clear hg hI hcr hgr hrow
          go_wp2_with (at_builtin; refine wpList_append_lies _ rfl _ _ _ rfl u0.heap.size 33 ir (.slice none 0 0) 1 24 Try.underlying23 HR.out.1 HR.out.2.1 HR.out.2.2.1 HR.out.2.2.2 rfl (by omega) (.slice ao k cv) k ((List.range k).map V) (by rfl) (LW.out.own.alloc _) ⟨wr.heap.size, 0, none⟩ 1 1 [.slice (some ⟨gr, 0, none⟩) c ci] (by rfl) rfl (new_row wr _) (fun u hu => by rw [List.mem_singleton.1 hu]; rfl) (by omega) (by unfold maxLen; omega) (by omega) (by simp; omega) (wr.heap.size + 1) (by simp) ?_; intro g cap1 w3 hown1 hgrow hat hlt1)
          go_roundg (R - (k + 1))
          case measure => have := HK.out.1; omega
          case rel => exact ⟨k + 1, _, _, B, ⟨rfl, by omega, ⟨_, _, L5.out.more HRW.out.2.2.2 HRW.out.2.1 HRW.out.1 HRW.out.2.2.1 hown1 hgrow hat⟩, saysB_row HJ.out.2.2 rfl⟩, rfl, rfl, by go_num⟩
    · have e : k = R := by omega
      have HE : Hid (k = R) := e
      have b1 : ¬ (k : Int) < (R : Int) := by omega
      have kx := KX.out.since hA.since
      have kr := KR.out.since hA.since
      have f2 : wr.frozen? ⟨w.heap.size, 1, none⟩ = false := kx.frozen 1
      have r0 : ∀ v, (wr.setCell ⟨w.heap.size, 1, none⟩ v).cell? ⟨w.heap.size + 1, 0, none⟩ = some (.int .u64 0) := fun v => (kr.other (a := ⟨w.heap.size, 1, none⟩) (by show w.heap.size + 1 ≠ w.heap.size; omega) v).cell 0
      have z0 : ∀ v, (wr.setCell ⟨w.heap.size, 1, none⟩ v).frozen? ⟨w.heap.size + 1, 0, none⟩ = false := fun v => (kr.other (a := ⟨w.heap.size, 1, none⟩) (by show w.heap.size + 1 ≠ w.heap.size; omega) v).frozen 0
      have r1 : ∀ v, (wr.setCell ⟨w.heap.size, 1, none⟩ v).cell? ⟨w.heap.size + 1, 1, none⟩ = some (.slice none 0 0) := fun v => (kr.other (a := ⟨w.heap.size, 1, none⟩) (by show w.heap.size + 1 ≠ w.heap.size; omega) v).cell 1
      have z1 : ∀ v, (wr.setCell ⟨w.heap.size, 1, none⟩ v).frozen? ⟨w.heap.size + 1, 1, none⟩ = false := fun v => (kr.other (a := ⟨w.heap.size, 1, none⟩) (by show w.heap.size + 1 ≠ w.heap.size; omega) v).frozen 1
      have KK : Hid (Blk (wr.setCell ⟨w.heap.size, 1, none⟩ (.slice ao k cv)) (w.heap.size + 1) 30 #[.int .u64 0, .slice none 0 0] ∧ Blk (wr.setCell ⟨w.heap.size, 1, none⟩ (.slice ao k cv)) w.heap.size 30 #[.int .u64 S, .slice ao k cv]) := ⟨kr.other (a := ⟨w.heap.size, 1, none⟩) (by show w.heap.size + 1 ≠ w.heap.size; omega) _, kx.set 1 _⟩
      have y0 : (wr.setCell ⟨w.heap.size, 1, none⟩ (.slice ao k cv)).cell? ⟨w.heap.size, 0, none⟩ = some (.int .u64 S) := KK.out.2.cell 0
      have y1 : (wr.setCell ⟨w.heap.size, 1, none⟩ (.slice ao k cv)).cell? ⟨w.heap.size, 1, none⟩ = some (.slice ao k cv) := KK.out.2.cell 1
      clear e hg hA hB hlt kx kr
      go_wp2_with fail
      refine bodyPost_ret (v := .tuple #[.agg #[.int .u64 S, .slice ao k cv], .bool B0]) ?_ rfl ?_
      rotate_left
      · exact ⟨_, B0, rfl, ⟨_, rfl, by have t := rows_put HK.out.2.1 (w2 := put2 (wr.setCell ⟨w.heap.size, 1, none⟩ (.slice ao k cv)) (w.heap.size + 1) (.int .u64 S) (.slice ao k cv)) (fun q hq => by have l := LS.out; rw [put2_heap _ _ _ _ q (by omega), Below.heap_setCell _ _ _ q (by show q ≠ w.heap.size; omega)]); rw [HE.out] at t ⊢; exact t⟩, saysB_ok (by have t := HK.out.2.2; rw [HE.out] at t; exact t) OK.out, put2_below ((bel_trans BX.out HK.out.2.1.since).setCell (p := ⟨w.heap.size, 1, none⟩) (Nat.le_refl _) _) (by omega) _ _⟩
      have c3 := put2_blk (t := 30) (KK.out.1) (.int .u64 S) (.slice ao k cv)
      have c30 := c3.cell 0
      have c31 := c3.cell 1
      change (results _ _).run _ (put2 (wr.setCell ⟨w.heap.size, 1, none⟩ (.slice ao k cv)) (w.heap.size + 1) (.int .u64 S) (.slice ao k cv)) = .ok _ (put2 (wr.setCell ⟨w.heap.size, 1, none⟩ (.slice ao k cv)) (w.heap.size + 1) (.int .u64 S) (.slice ao k cv))
      generalize put2 (wr.setCell ⟨w.heap.size, 1, none⟩ (.slice ao k cv)) (w.heap.size + 1) (.int .u64 S) (.slice ao k cv) = W5 at c30 c31
      simp [results, Try.results22, go_sem, c30, c31]
end Go.Proofs.Ytpjpgcjlbfgkdaa
