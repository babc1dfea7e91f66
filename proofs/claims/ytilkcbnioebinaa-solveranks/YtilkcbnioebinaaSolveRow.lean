/-
  What solve.leading, solve.toOne and solve.takeAway do: the last two write one row of the table alone.
-/
import Derived.Test.YtilkcbnioebinaaSolveMem
namespace Go.Proofs.Ytilkcbnioebinaa
open Go.RowKit Fm
attribute [local go_sem ↓] Go.wp_at_zero Go.wp_at_succ

/-- One block alone has been written. -/
structure Only (g : Nat) (w w' : World) : Prop where
  os : w'.os = w.os
  tape : w'.tape = w.tape
  output : w'.output = w.output
  size : w'.heap.size = w.heap.size
  block : ∀ k, k ≠ g → w'.heap[k]? = w.heap[k]?
theorem Only.refl (g : Nat) (w : World) : Only g w w := ⟨rfl, rfl, rfl, rfl, fun _ _ => rfl⟩
theorem Only.trans {g : Nat} {a b c : World} (h : Only g a b) (k : Only g b c) : Only g a c :=
  ⟨k.os.trans h.os, k.tape.trans h.tape, k.output.trans h.output, k.size.trans h.size, fun i hi => (k.block i hi).trans (h.block i hi)⟩
theorem Only.drew {g : Nat} {w w' : World} (h : Only g w w') : Only g w w'.drew := ⟨h.os, h.tape, h.output, h.size, h.block⟩
theorem Only.setCell {g : Nat} {w w' : World} (h : Only g w w') (i : Nat) (v : Value) : Only g w (w'.setCell ⟨g, i, none⟩ v) :=
  h.trans ⟨rfl, rfl, rfl, by simp [World.setCell], fun k hk => Below.heap_setCell _ _ _ _ hk⟩
theorem Only.below {g B : Nat} {w0 w w' : World} (h : Only g w w') (hB : B ≤ g) (k : Below B w0 w) : Below B w0 w' :=
  k.trans ⟨h.os, h.tape, h.output, Nat.le_of_eq h.size.symm, fun i hi => h.block i (by omega)⟩
theorem Only.row {g b : Nat} {w w' : World} (h : Only g w w') (hb : b ≠ g) {t : TypeId} {n : Nat} {f : Nat → Value} (k : w.rowIs b t n f) : w'.rowIs b t n f := k.of_block (h.block b hb)

/-- The first row that is not 0 in a column. -/
def TellsLead (w : World) (R c : Nat) (Z : Nat → Nat → Int) (e : Ending) (w' : World) : Prop :=
  ∃ k : Nat, e = .returned (.int .i64 (k : Int)) ∧ k ≤ R ∧ (∀ i, i < k → Z i c = 0) ∧ (k < R → Z k c ≠ 0) ∧ w' = w

set_option maxHeartbeats 800000 in
theorem leading_any (w : World) (v : Value) (R W c : Nat) (Z : Nat → Nat → Int) (h : RowsAt w v R (fun _ => W) Z) (hR : R ≤ 1000) (hc : c < W) :
    Calls Try.prog 30 #[v, .int .i64 (c : Int)] w (TellsLead w R c Z) := by
  obtain ⟨A, cap, b, o, V, rfl, h2, h3, h4⟩ := h
  have cell : Hid (∀ r, r < R → A = some ⟨b, o, none⟩ ∧ ∃ cap' b' o', w.cell? ⟨b, o + r, none⟩ = some (.slice (some ⟨b', o', none⟩) W cap') ∧ w.cell? ⟨b', o' + c, none⟩ = some (.int .u64 (Z r c))) := fun r hr => by
    obtain ⟨c1, A', cap', b', o', e, _, e2, i⟩ := h4 r hr
    have hA := e2 (Nat.lt_of_le_of_lt (Nat.zero_le _) hc)
    subst hA
    exact ⟨h3 (by omega), cap', b', o', by rw [c1, e], (i c hc).1⟩
  clear h3 h4
  have hc1 : (c : Int) < W := by omega
  go_enter Try.func30, Try.ntmps30
  go_wp2_with fail
  go_loopg [9] R (fun g i wr => ∃ k : Nat, (g = R - k ∧ wr = w ∧ k ≤ R ∧ ∀ r, r < k → Z r c = 0) ∧ i = .int .i64 (k : Int))
  case atStart => exact ⟨0, ⟨rfl, rfl, by omega, fun r hr => by omega⟩, rfl⟩
  case round =>
    obtain ⟨k, ⟨hg, rfl, hkR, hk⟩, rfl⟩ := hrel
    have HK : Hid (gk = R - k ∧ ∀ r, r < k → Z r c = 0) := ⟨hg, hk⟩
    clear hg hk
    by_cases hz : k < R
    · obtain ⟨rfl, cap', b', o', c1, c2⟩ := cell.out k hz
      by_cases he : Z k c = 0
      · have HE : Hid (Z k c = 0) := he
        rw [he] at c2
        clear he
        go_wp2_with fail
        go_roundg (R - (k + 1))
        case measure => have := HK.out.1; omega
        case rel =>
          refine ⟨k + 1, ⟨rfl, rfl, by omega, fun r hr => ?_⟩, by go_num⟩
          by_cases e : r = k
          · rw [e]; exact HE.out
          · exact HK.out.2 r (by omega)
      · have HE : Hid (Z k c ≠ 0) := he
        have hq : (Z k c == 0) = false := by simpa using he
        clear he
        go_wp2_with fail
        go_ret
        exact ⟨k, rfl, by omega, HK.out.2, fun _ => HE.out, rfl⟩
    · have e : k = R := by omega
      go_wp2_with fail
      go_ret
      exact ⟨R, rfl, by omega, fun i hi => HK.out.2 i (by omega), fun h => by omega, rfl⟩

/-- A row of the call's own, in block g. -/
def RowOwn (w : World) (g K : Nat) (z : Nat → Int) : Prop := w.rowIs g 36 K (fun j => .int .u64 (z j))
theorem row_step {w : World} {g K k : Nat} {F z : Nat → Int} (h : RowOwn w g K (fun j => if j < k then F j else z j)) :
    RowOwn (w.setCell ⟨g, k, none⟩ (.int .u64 (F k))) g K (fun j => if j < k + 1 then F j else z j) := by
  refine World.rowIs.congr (World.rowIs.set h k _) fun j hj => ?_
  by_cases e : j = k
  · subst e; simp
  · by_cases e2 : j < k
    · simp [e, e2, show j < k + 1 by omega]
    · simp [e, e2, show ¬ j < k + 1 by omega]

set_option maxHeartbeats 800000 in
theorem toOne_any (w : World) (g W K c : Nat) (z : Nat → Int) (h : RowOwn w g K z) (hW : W ≤ K) (hK : K ≤ 1000) (hc : c < W) (hz : ∀ j, j < W → 0 ≤ z j ∧ z j < 2305843009213693951) (hne : z c ≠ 0) :
    Calls Try.prog 31 #[.slice (some ⟨g, 0, none⟩) W K, .int .i64 (c : Int)] w fun e w' => e = .returned (.tuple #[]) ∧ Only g w w' ∧ RowOwn w' g K (fun j => if j < W then mulF (z j) (powF (z c) 2305843009213693949) else z j) := by
  have c1 : w.cell? ⟨g, c, none⟩ = some (.int .u64 (z c)) := World.rowIs.cell h (by omega)
  have hc1 : (c : Int) < W := by omega
  have uc : U (z c) := ⟨(hz c hc).1, by have := (hz c hc).2; omega⟩
  have hq : (oF (z c) == 0) = false := by
    rw [oF_id (hz c hc).1 (hz c hc).2]; simpa using hne
  have HZ : Hid (∀ j, j < W → 0 ≤ z j ∧ z j < 2305843009213693951) := hz
  have H : Hid (RowOwn w g K z) := h
  clear hz hne h
  go_enter Try.func31, Try.ntmps31
  go_wp2_with fail
  refine (inv_some _ _ uc hq).mono ?_
  rintro e w' ⟨rfl, rfl⟩
  have ui := powF_U (z c) 2305843009213693949
  obtain ⟨q, hqq⟩ : ∃ q, q = powF (z c) 2305843009213693949 := ⟨_, rfl⟩
  rw [← hqq] at ui ⊢
  have HQ : Hid (q = powF (z c) 2305843009213693949) := hqq
  clear hqq
  clear hq c1
  go_wp2_with fail
  go_loopg [17] W (fun gk i wr => ∃ k : Nat, (gk = W - k ∧ k ≤ W ∧ Only g w' wr ∧ RowOwn wr g K (fun j => if j < k then mulF (z j) q else z j)) ∧ i = .int .i64 (k : Int))
  case atStart => exact ⟨0, ⟨rfl, by omega, Only.refl _ _, World.rowIs.congr H.out fun j _ => by simp⟩, rfl⟩
  case round =>
    obtain ⟨k, ⟨hg, hk, ho, hr⟩, rfl⟩ := hrel
    have HK : Hid (gk = W - k ∧ Only g w' wr ∧ RowOwn wr g K (fun j => if j < k then mulF (z j) q else z j)) := ⟨hg, ho, hr⟩
    clear hg ho
    by_cases hlt : k < W
    · have ck : wr.cell? ⟨g, k, none⟩ = some (.int .u64 (z k)) := by have := World.rowIs.cell hr (i := k) (by omega); simpa using this
      have fk : wr.frozen? ⟨g, k, none⟩ = false := World.rowIs.frozen hr k
      have uk : U (z k) := ⟨(HZ.out k hlt).1, by have := (HZ.out k hlt).2; omega⟩
      clear hr
      go_wp2_with fail
      refine (mul_any _ _ _ uk ui).mono ?_
      rintro e w'' ⟨rfl, rfl⟩
      go_wp2_with fail
      go_roundg (W - (k + 1))
      case measure => have := HK.out.1; omega
      case rel => exact ⟨k + 1, ⟨rfl, by omega, HK.out.2.1.setCell _ _, row_step HK.out.2.2⟩, by go_num⟩
    · have e : k = W := by omega
      have HE : Hid (k = W) := e
      clear e hr
      go_wp2_with fail
      go_end0
      obtain ⟨_, h1, h2⟩ := HK.out
      rw [HE.out] at h2
      rw [← HQ.out]
      exact ⟨rfl, h1, h2⟩

set_option maxHeartbeats 1600000 in
theorem takeAway_any (w : World) (g h W K : Nat) (z y : Nat → Int) (f : Int) (hz : RowOwn w g K z) (hy : RowOwn w h K y) (hgh : g ≠ h) (hW : W ≤ K) (hK : K ≤ 1000) (uf : U f) (uz : ∀ j, j < W → U (z j)) (uy : ∀ j, j < W → U (y j)) :
    Calls Try.prog 32 #[.slice (some ⟨g, 0, none⟩) W K, .slice (some ⟨h, 0, none⟩) W K, .int .u64 f] w fun e w' => e = .returned (.tuple #[]) ∧ Only g w w' ∧ RowOwn w' g K (fun j => if j < W then subF (z j) (mulF f (y j)) else z j) := by
  have HZ : Hid ((∀ j, j < W → U (z j)) ∧ (∀ j, j < W → U (y j)) ∧ RowOwn w g K z ∧ RowOwn w h K y ∧ h ≠ g) := ⟨uz, uy, hz, hy, Ne.symm hgh⟩
  have hhg := Ne.symm hgh
  clear uz uy hz hy
  go_enter Try.func32, Try.ntmps32
  go_wp2_with fail
  go_loopg [9] W (fun gk i wr => ∃ k : Nat, (gk = W - k ∧ k ≤ W ∧ Only g w wr ∧ RowOwn wr g K (fun j => if j < k then subF (z j) (mulF f (y j)) else z j)) ∧ i = .int .i64 (k : Int))
  case atStart => exact ⟨0, ⟨rfl, by omega, Only.refl _ _, World.rowIs.congr HZ.out.2.2.1 fun j _ => by simp⟩, rfl⟩
  case round =>
    obtain ⟨k, ⟨hg, hk, ho, hr⟩, rfl⟩ := hrel
    have HK : Hid (gk = W - k ∧ Only g w wr ∧ RowOwn wr g K (fun j => if j < k then subF (z j) (mulF f (y j)) else z j)) := ⟨hg, ho, hr⟩
    by_cases hlt : k < W
    · have ck : wr.cell? ⟨g, k, none⟩ = some (.int .u64 (z k)) := by have := World.rowIs.cell hr (i := k) (by omega); simpa using this
      have fk : wr.frozen? ⟨g, k, none⟩ = false := World.rowIs.frozen hr k
      have dk : wr.cell? ⟨h, k, none⟩ = some (.int .u64 (y k)) := World.rowIs.cell (ho.row HZ.out.2.2.2.2 HZ.out.2.2.2.1) (i := k) (by omega)
      have uk : U (z k) := HZ.out.1 k hlt
      have uyk : U (y k) := HZ.out.2.1 k hlt
      have b0 : (0 : Int) ≤ (k : Int) := by omega
      have b1 : (k : Int) < (W : Int) := by omega
      clear hr hg ho
      go_wp2_with fail
      go_region_with (first | (go_at_call 29; refine (mul_any _ _ _ uf uyk).mono ?_; rintro e w'' ⟨rfl, rfl⟩) | (go_at_call 37; refine (sub_any _ _ _ uk (mulF_U _ _)).mono ?_; rintro e w'' ⟨rfl, rfl⟩))
      all_goals go_wp2_with fail
      all_goals go_roundg (W - (k + 1))
      all_goals first | (have := HK.out.1; omega) | exact ⟨k + 1, ⟨rfl, by omega, (HK.out.2.1.setCell _ _).drew, row_step (F := fun j => subF (z j) (mulF f (y j))) HK.out.2.2⟩, by go_num⟩
    · have e : k = W := by omega
      have HE : Hid (k = W) := e
      clear e hr hg ho
      go_wp2_with fail
      go_end0
      obtain ⟨_, h1, h2⟩ := HK.out
      rw [HE.out] at h2
      exact ⟨rfl, h1, h2⟩

end Go.Proofs.Ytilkcbnioebinaa
