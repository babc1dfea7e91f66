/-
  What the reference's less makes: a row without what a base has of it.
-/
import Derived.Test.YtilkcbnioebinaaRefOwn
import Derived.Deep.RegionWith
import Derived.Deep.Slices
namespace Go.Proofs.Ytilkcbnioebinaa
open Go.RowKit Fm Go.Deep
attribute [local go_sem ↓] Go.wp_at_zero Go.wp_at_succ

/-- A row of the call's own in block g: its first C numbers. -/
def OutAt (w : World) (g cap C : Nat) (z : Nat → Int) : Prop := ∃ f : Nat → Value, w.rowIs g 36 cap f ∧ C ≤ cap ∧ ∀ j, j < C → f j = .int .u64 (z j)
theorem OutAt.congr {w : World} {g cap C : Nat} {z y : Nat → Int} (h : OutAt w g cap C z) (e : ∀ j, j < C → z j = y j) : OutAt w g cap C y := by
  obtain ⟨f, h1, h2, h3⟩ := h
  exact ⟨f, h1, h2, fun j hj => by rw [h3 j hj, e j hj]⟩
theorem OutAt.cell {w : World} {g cap C : Nat} {z : Nat → Int} (h : OutAt w g cap C z) {j : Nat} (hj : j < C) : w.cell? ⟨g, j, none⟩ = some (.int .u64 (z j)) := by
  obtain ⟨f, h1, h2, h3⟩ := h
  rw [← h3 j hj]; exact h1.cell (by omega)
theorem OutAt.frozen {w : World} {g cap C : Nat} {z : Nat → Int} (h : OutAt w g cap C z) (j : Nat) : w.frozen? ⟨g, j, none⟩ = false := by
  obtain ⟨f, h1, _⟩ := h
  exact h1.frozen j
theorem OutAt.lt {w : World} {g cap C : Nat} {z : Nat → Int} (h : OutAt w g cap C z) : g < w.heap.size := by
  obtain ⟨f, h1, _⟩ := h
  exact h1.lt
theorem OutAt.drew {w : World} {g cap C : Nat} {z : Nat → Int} (h : OutAt w g cap C z) : OutAt w.drew g cap C z := h
theorem OutAt.drewN {w : World} {g cap C : Nat} {z : Nat → Int} (h : OutAt w g cap C z) (n : Nat) : OutAt (w.drewN n) g cap C z := h
theorem OutAt.step {w : World} {g cap C k : Nat} {F z : Nat → Int} (h : OutAt w g cap C (fun j => if j < k then F j else z j)) : OutAt (w.setCell ⟨g, k, none⟩ (.int .u64 (F k))) g cap C (fun j => if j < k + 1 then F j else z j) := by
  obtain ⟨f, h1, h2, h3⟩ := h
  refine ⟨_, h1.set k _, h2, fun j hj => ?_⟩
  by_cases e : j = k
  · subst e; simp
  · rw [if_neg e, h3 j hj]
    by_cases e2 : j < k
    · simp [e2, show j < k + 1 by omega]
    · simp [e2, show ¬ j < k + 1 by omega]
theorem OutAt.ints {w : World} {g cap C : Nat} {z : Nat → Int} (h : OutAt w g cap C z) (u : ∀ j, j < C → U (z j)) : IntsAt w (.slice (some ⟨g, 0, none⟩) C cap) C z :=
  ⟨_, cap, g, 0, rfl, by obtain ⟨_, _, h2, _⟩ := h; exact h2, fun _ => rfl, fun c hc => ⟨by rw [Nat.zero_add]; exact h.cell hc, u c hc⟩⟩
theorem out_of_owns {w : World} {N g cap C : Nat} {z : Nat → Int} (h : w.ownsRow N 36 1 (.slice (some ⟨g, 0, none⟩) C cap) C (cellsF C z)) : OutAt w g cap C z ∧ N ≤ g := by
  rcases h.2 with ⟨e, _⟩ | ⟨g', cap', cur, e, hN, hg, hn, _, hs, hx⟩
  · cases e
  · cases e
    rw [Nat.mul_one] at hs
    refine ⟨⟨fun j => cur.getD j default, ⟨cur, hg, hs, fun i hi => ?_⟩, hn, fun j hj => ?_⟩, hN⟩
    · show cur[i]? = some (cur.getD i default)
      rw [Array.getD_eq_getD_getElem?, Array.getElem?_eq_getElem (by omega)]; rfl
    · have e1 := cellsF_get C z j hj
      rw [← hx, List.getElem?_take_of_lt (by omega)] at e1
      show cur.getD j default = _
      rw [Array.getD_eq_getD_getElem?, ← Array.getElem?_toList, e1]; rfl

def TellsLess (w : World) (C : Nat) (z : Nat → Int) (e : Ending) (w' : World) : Prop :=
  ∃ (ao : Option Addr) (cap g : Nat), e = .returned (.slice ao C cap) ∧ (0 < C → ao = some ⟨g, 0, none⟩ ∧ w.heap.size ≤ g ∧ OutAt w' g cap C z) ∧ IntsAt w' (.slice ao C cap) C z ∧ Below w.heap.size w w'

set_option maxHeartbeats 800000 in
theorem less_none (w : World) (A : Option Addr) (cap : Nat) (vb : Value) (B : Nat → Nat → Int) (l : Nat → Nat) (z : Nat → Int) (hb : RowsAt w vb 0 (fun _ => 0) B) :
    Calls Try.prog 33 #[.slice A 0 cap, vb] w (TellsLess w 0 (lessF B l z 0)) := by
  obtain ⟨Ab, capb, rfl⟩ := hb.form
  clear hb
  cases A with
  | none =>
    go_enter Try.func33, Try.ntmps33
    go_wp2_with fail
    go_loop [16] (fun i => i = .int .i64 0) (fun _ => 0)
    case atStart => rfl
    case round =>
      subst hrel
      go_wp2_with fail
      go_ret
      exact ⟨none, 0, 0, rfl, fun h => by omega, ⟨_, 0, 0, 0, rfl, Nat.le_refl _, fun h => by omega, fun c h => by omega⟩, Below.refl _ _⟩
  | some a =>
    go_enter Try.func33, Try.ntmps33
    go_wp2_with fail
    go_loop [16] (fun i => i = .int .i64 0) (fun _ => 0)
    case atStart => rfl
    case round =>
      subst hrel
      go_wp2_with fail
      go_ret
      exact ⟨none, 0, 0, rfl, fun h => by omega, ⟨_, 0, 0, 0, rfl, Nat.le_refl _, fun h => by omega, fun c h => by omega⟩, Below.refl _ _⟩

set_option maxHeartbeats 3200000 in
theorem less_some (w : World) (v vb : Value) (C n : Nat) (B : Nat → Nat → Int) (l : Nat → Nat) (z : Nat → Int) (hv : IntsAt w v C z) (hb : RowsAt w vb n (fun _ => C) B) (hs : Bs n C B l) (hC0 : 0 < C) (hC : C ≤ 100) (hn : n ≤ 100) :
    Calls Try.prog 33 #[v, vb] w (TellsLess w C (lessF B l z n)) := by
  have uB : Hid (∀ q, q < n → ∀ j, j < C → U (B q j)) := fun q hq j hj => by
    obtain ⟨_, _, _, _, _, _, _, _, h4⟩ := hb
    obtain ⟨_, _, _, _, _, _, _, _, i⟩ := h4 q hq
    exact (i j hj).2
  have uL : Hid (∀ k j, j < C → U (lessF B l z k j)) := less_U fun j hj => by
    obtain ⟨_, _, _, _, _, _, _, h4⟩ := hv
    exact (h4 j hj).2
  obtain ⟨A, cap, b, o, rfl, _, h3, h4⟩ := hv
  obtain rfl := h3 hC0
  have HB : Hid (RowsAt w vb n (fun _ => C) B ∧ Bs n C B l) := ⟨hb, hs⟩
  obtain ⟨Ab, capb, bb, ob, V, rfl, _, k3, k4⟩ := hb
  have cell : Hid (∀ r, r < n → Ab = some ⟨bb, ob, none⟩ ∧ ∃ cap' b' o', IntsAt w (.slice (some ⟨b', o', none⟩) C cap') C (B r) ∧ w.cell? ⟨bb, ob + r, none⟩ = some (.slice (some ⟨b', o', none⟩) C cap') ∧ ∀ c, c < C → w.cell? ⟨b', o' + c, none⟩ = some (.int .u64 (B r c))) := fun r hr => by
    obtain ⟨c1, k⟩ := k4 r hr
    have k' := k
    obtain ⟨A', cap', b', o', e, _, e2, i⟩ := k
    obtain rfl := e2 hC0
    rw [e] at k' c1
    exact ⟨k3 (by omega), cap', b', o', k', c1, fun c hc => (i c hc).1⟩
  have hnews : Hid (∀ j u, (cellsF C z)[j]? = some u → w.cell? ((⟨b, o, none⟩ : Addr).add j) = some u) := fun j u hu => by
    have hj : j < C := by
      rcases Nat.lt_or_ge j C with h | h
      · exact h
      · rw [List.getElem?_eq_none (by rw [cellsF_len]; exact h)] at hu; cases hu
    rw [cellsF_get C z j hj] at hu
    cases hu
    rw [Go.WideShapes.add_plain]; exact (h4 j hj).1
  have hone : Hid (∀ u ∈ cellsF C z, u.oneCell' = true) := fun u hu => by
    obtain ⟨j, _, rfl⟩ := List.mem_map.1 hu; rfl
  obtain ⟨i36, hi36, hz36, hs36, hb36⟩ := info36'
  have HI : Hid (Try.prog.info? 36 = some i36 ∧ i36.zero = some (.int .u64 0) ∧ i36.size = 1 ∧ i36.bytes = 8) := ⟨hi36, hz36, hs36, hb36⟩
  clear h3 h4 k3 k4 hs hi36 hz36 hs36 hb36
  go_enter Try.func33, Try.ntmps33
  go_wp2_with (at_builtin; refine wpList_append_lies _ rfl _ _ _ rfl w.heap.size 36 i36 (.int .u64 0) 1 8 Try.underlying30 HI.out.1 HI.out.2.1 HI.out.2.2.1 HI.out.2.2.2 rfl (by omega) (.slice none 0 0) 0 [] (by rfl) (World.ownsRow_nil _ _ _ _) ⟨b, o, none⟩ C cap (cellsF C z) (by rfl) (by rw [cellsF_len]; omega) hnews.out hone.out hC0 (by unfold maxLen; omega) (by omega) (Nat.le_refl _) _ rfl ?_; intro g cap1 w1 hown1 hgrow hat hlt1)
  have O0 : Hid (OutAt w1 g cap1 C z ∧ w.heap.size ≤ g ∧ Below w.heap.size w w1) := by
    rw [Nat.zero_add, List.nil_append] at hown1
    obtain ⟨o1, o2⟩ := out_of_owns hown1
    exact ⟨o1, o2, (Below.refl _ _).grown hgrow (Nat.le_refl _) fun q e => by cases e⟩
  clear hown1 hgrow hat hlt1 hnews hone HI
  go_loopg [16] n (fun gg i wr => ∃ k : Nat, (gg = n - k ∧ k ≤ n ∧ OutAt wr g cap1 C (lessF B l z k) ∧ Below w.heap.size w wr) ∧ i = .int .i64 (k : Int))
  case atStart => exact ⟨0, ⟨rfl, by omega, O0.out.1, O0.out.2.2⟩, rfl⟩
  case round =>
    obtain ⟨k, ⟨hg, hk, hO, hB⟩, rfl⟩ := hrel
    have HK : Hid (gk = n - k ∧ OutAt wr g cap1 C (lessF B l z k) ∧ Below w.heap.size w wr) := ⟨hg, hO, hB⟩
    clear hg
    by_cases hz : k < n
    · obtain ⟨rfl, cap', b', o', kI, c1, c2⟩ := cell.out k hz
      have d1 := (hB.cell (World.block_lt_of_cell? _ _ c1)).trans c1
      have KI : Hid (IntsAt wr (.slice (some ⟨b', o', none⟩) C cap') C (B k)) := kI.keep ((keep_of_below (hB.mono (Nat.le_refl _))))
      have CC : Hid (∀ c, c < C → w.cell? ⟨b', o' + c, none⟩ = some (.int .u64 (B k c))) := c2
      clear kI c1 c2
      go_wp2_with fail
      refine (first_any wr _ C (B k) KI.out hC).mono ?_
      rintro e w2 ⟨q, rfl, hq, hw2⟩
      have hw3 := hw2.symm
      subst hw3
      have hqk : q = l k := by
        rcases hq with ⟨_, hq⟩ | ⟨_, hq⟩
        · exact ld_unique hq (HB.out.2.ld k hz)
        · exact absurd (hq _ (HB.out.2.ld k hz).1) (HB.out.2.ld k hz).2.1
      have HQ : Hid (q = l k) := hqk
      have hqC : q < C := by rw [hqk]; exact (HB.out.2.ld k hz).1
      clear hw2 hq hqk
      have e1 := hO.cell hqC
      have e2 := (hB.cell (World.block_lt_of_cell? _ _ (CC.out q hqC))).trans (CC.out q hqC)
      have u1 := uL.out k q hqC
      have u2 := uB.out k hz q hqC
      have b1 : (q : Int) < (C : Int) := by omega
      obtain ⟨Oq, hOq⟩ : ∃ Oq, Oq = lessF B l z k q := ⟨_, rfl⟩
      rw [← hOq] at e1 u1
      have HF : Hid (mulF Oq (powF (B k q) 2305843009213693949) = mulF (lessF B l z k (l k)) (powF (B k (l k)) 2305843009213693949)) := by rw [hOq, ← HQ.out]; rfl
      clear hOq hO hB
      go_wp2_with fail
      go_quiet ((first | (go_at_call 38; exact Calls.quiet_of_same (inverse_any (B k q) _ u2)) | (go_at_call 27; exact Calls.quiet_of_same (rmul_any Oq (powF (B k q) 2305843009213693949) _ u1 (powF_U _ _)))))
      have uF : U (mulF Oq (powF (B k q) 2305843009213693949)) := mulF_U _ _
      obtain ⟨F, hF⟩ : ∃ F, F = mulF Oq (powF (B k q) 2305843009213693949) := ⟨_, rfl⟩
      rw [← hF] at uF HF ⊢
      clear hF e1 e2 d1 u1 u2
      go_wp2_with fail
      go_loopg [10] C (fun gg i wi => ∃ c : Nat, (gg = C - c ∧ c ≤ C ∧ OutAt wi g cap1 C (fun j => if j < c then subF (lessF B l z k j) (mulF F (B k j)) else lessF B l z k j) ∧ Below w.heap.size w wi) ∧ i = .int .i64 (c : Int))
      case atStart => exact ⟨0, ⟨rfl, by omega, (HK.out.2.1.drewN _).congr fun j _ => by simp, below_drewN HK.out.2.2 _⟩, rfl⟩
      case round =>
        obtain ⟨c, ⟨hg, hc, hO, hB⟩, rfl⟩ := hrel
        have HJ : Hid (gk = C - c ∧ OutAt wr g cap1 C (fun j => if j < c then subF (lessF B l z k j) (mulF F (B k j)) else lessF B l z k j) ∧ Below w.heap.size w wr) := ⟨hg, hO, hB⟩
        clear hg
        by_cases hlt : c < C
        · have e1 : wr.cell? ⟨g, c, none⟩ = some (.int .u64 (lessF B l z k c)) := by have := hO.cell hlt; simpa using this
          have e3 : wr.frozen? ⟨g, c, none⟩ = false := hO.frozen c
          have e2 := (hB.cell (World.block_lt_of_cell? _ _ (CC.out c hlt))).trans (CC.out c hlt)
          have u1 := uL.out k c hlt
          have u2 := uB.out k hz c hlt
          have b2 : (c : Int) < (C : Int) := by omega
          have ST : Hid (OutAt (wr.setCell ⟨g, c, none⟩ (.int .u64 (subF (lessF B l z k c) (mulF F (B k c))))) g cap1 C (fun j => if j < c + 1 then subF (lessF B l z k j) (mulF F (B k j)) else lessF B l z k j)) := OutAt.step (F := fun j => subF (lessF B l z k j) (mulF F (B k j))) hO
          obtain ⟨Oc, hOc⟩ : ∃ Oc, Oc = lessF B l z k c := ⟨_, rfl⟩
          rw [← hOc] at e1 u1
          rw [← hOc] at ST
          clear hO hB hOc
          go_wp2_with fail
          go_region_with (first | (go_at_call 27; refine (rmul_any _ _ _ uF u2).mono ?_; rintro e w3 ⟨rfl, rfl⟩) | (go_at_call 39; refine (rsub_any _ _ _ u1 (mulF_U _ _)).mono ?_; rintro e w3 ⟨rfl, rfl⟩))
          all_goals go_wp2_with fail
          all_goals go_roundg (C - (c + 1))
          all_goals first | (have := HJ.out.1; omega) | exact ⟨c + 1, ⟨rfl, by omega, ST.out.drew, (HJ.out.2.2.setCell O0.out.2.1 _).drew⟩, by go_num⟩
        · have e : c = C := by omega
          have HE : Hid (c = C) := e
          clear e hO hB
          go_wp2_with fail
          go_roundg (n - (k + 1))
          case measure => have := HK.out.1; omega
          case rel =>
            refine ⟨k + 1, ⟨rfl, by omega, HJ.out.2.1.congr fun j hj => ?_, HJ.out.2.2⟩, by go_num⟩
            rw [HE.out, if_pos hj, HF.out]
            rfl
    · have e : k = n := by omega
      have HE : Hid (k = n) := e
      clear e hO hB
      go_wp2_with fail
      go_ret
      have o := HK.out.2.1
      rw [HE.out] at o
      exact ⟨_, cap1, g, rfl, fun _ => ⟨rfl, O0.out.2.1, o⟩, o.ints fun j hj => uL.out n j hj, HK.out.2.2⟩

end Go.Proofs.Ytilkcbnioebinaa
