
/-
  List of layer 14 (heavy): the items, copied and sorted.
-/
import Derived.Test.YtejdfahokbheoaaHevSort
import Derived.Lib.SliceRun
namespace Go.Proofs.Ytejdfahokbheoaa
open Go.RowKit Hv Go.Deep
set_option linter.unusedVariables false

theorem lCells_one : ∀ (l : List Itm), ∀ u ∈ lCells l, u.oneCell' = true
  | [], u, h => by cases h
  | x :: r, u, h => by
    rw [lCells] at h
    rcases List.mem_cons.1 h with rfl | h
    · rfl
    · rcases List.mem_cons.1 h with rfl | h
      · rfl
      · exact lCells_one r u h
set_option maxHeartbeats 2000000 in
theorem cloneI_any (w : World) (v : Value) (l : List Itm) (h : ItsL w v l) (hn : l.length ≤ 100000) : Calls Try.prog 29 #[v] w fun e w' => ∃ v', e = .returned v' ∧ w'.ownsRow w.heap.size 30 2 v' l.length (lCells l) ∧ Below w.heap.size w w' := by
  obtain ⟨A, cap, b, o, rfl, h2, h3, h4⟩ := h
  obtain ⟨it, hi, hz0, hz1, hz2⟩ := infoHI
  have HT : Hid (Try.prog.info? 30 = some it ∧ it.zero = some (.agg #[.string ⟨#[]⟩, .int .i64 0]) ∧ it.size = 2 ∧ it.bytes = 24) := ⟨hi, hz0, hz1, hz2⟩
  clear hi hz0 hz1 hz2
  have q : ∀ (w : World) (a : Option Addr) (n c n' c' : Nat), (binOp .eql 22 (.slice a n c) (.slice none n' c')).run Try.prog w = .ok (.bool a.isNone) w := fun w a n c n' c' => Lib.run_eql_slice_nil w _ _ a n c n' c' Try.underlying22
  by_cases h0 : l.length = 0
  · obtain rfl := List.length_eq_zero_iff.1 h0
    clear h3 h4
    simp only [List.length_nil] at *
    cases A with
    | none =>
      go_enter Try.func29, Try.ntmps29
      go_wp2
      go_ret
      exact ⟨_, rfl, World.ownsRow_nil w _ _ _, Below.refl _ _⟩
    | some a =>
      go_enter Try.func29, Try.ntmps29
      go_wp2_with (at_builtin; refine wpList_append_own _ rfl _ _ 22 rfl w.heap.size 30 it (.agg #[.string ⟨#[]⟩, .int .i64 0]) 2 24 Try.underlying22 HT.out.1 HT.out.2.1 HT.out.2.2.1 HT.out.2.2.2 rfl (by decide) _ _ _ rfl (World.ownsRow_made w #[] 0 (Nat.le_refl _) (Nat.zero_le _) rfl) a 0 cap [] rfl rfl (by intro j u hj; simp at hj) (by intro u hu; cases hu) (by unfold maxLen; omega) (by omega) (by simp) ?_)
      intro v' w1 hown hgrow hnil
      go_wp2
      go_ret
      exact ⟨_, rfl, by simpa [lCells] using hown, ((Below.refl _ w).alloc (Nat.le_refl _) _).grown hgrow (by simp) (by intro k hk; simp [Value.ownBlock] at hk; omega)⟩
  · obtain rfl := h3 (by omega)
    have A4 : Hid (∀ i x, l[i]? = some x → w.cell? ⟨b, o + i * 2, none⟩ = some (.string x.k) ∧ w.cell? ⟨b, o + i * 2 + 1, none⟩ = some (.int .i64 x.c)) := h4
    have N0 := hid h0
    obtain ⟨n, hl⟩ : ∃ n, n = l.length := ⟨_, rfl⟩
    have HN := hid hl
    rw [← hl] at h2 hn h0 ⊢
    clear h3 h4 hl
    go_enter Try.func29, Try.ntmps29
    go_wp2_with (at_builtin; refine wpList_append_own _ rfl _ _ 22 rfl w.heap.size 30 it (.agg #[.string ⟨#[]⟩, .int .i64 0]) 2 24 Try.underlying22 HT.out.1 HT.out.2.1 HT.out.2.2.1 HT.out.2.2.2 rfl (by decide) _ _ _ rfl (World.ownsRow_made w #[] 0 (Nat.le_refl _) (Nat.zero_le _) rfl) ⟨b, o, none⟩ n cap (lCells l) rfl ?qc1 ?qc2 ?qc3 ?qc4 ?qc5 ?qc6 ?_)
    case qc1 => rw [lCells_len, HN.out]
    case qc2 =>
      intro j u hj
      have hjn : j < n * 2 := by
        have := (List.getElem?_eq_some_iff.1 hj).1
        rw [lCells_len, ← HN.out] at this
        exact this
      obtain ⟨x, hx⟩ : ∃ x, l[j / 2]? = some x := ⟨_, List.getElem?_eq_getElem (by rw [← HN.out]; omega)⟩
      obtain ⟨g1, g2⟩ := lCells_get l _ _ hx
      obtain ⟨k1, k2⟩ := A4.out _ _ hx
      rw [Addr.add_lit]
      rcases Nat.mod_two_eq_zero_or_one j with m | m
      · rw [show j / 2 * 2 = j by omega] at g1 k1
        rw [g1] at hj
        rw [← hj, ← k1]
        exact World.cell?_alloc_lt w _ _ (World.block_lt_of_cell? _ _ k1)
      · rw [show j / 2 * 2 + 1 = j by omega] at g2
        rw [show o + j / 2 * 2 + 1 = o + j by omega] at k2
        rw [g2] at hj
        rw [← hj, ← k2]
        exact World.cell?_alloc_lt w _ _ (World.block_lt_of_cell? _ _ k2)
    case qc3 => exact lCells_one l
    case qc4 => unfold maxLen; omega
    case qc5 => omega
    case qc6 => simp
    intro v' w1 hown hgrow hnil
    go_wp2
    go_ret
    exact ⟨_, rfl, by simpa using hown, ((Below.refl _ w).alloc (Nat.le_refl _) _).grown hgrow (by simp) (by intro k hk; simp [Value.ownBlock] at hk; omega)⟩
def encI (x : Itm) : List Value := [.string x.k, .int .i64 x.c]
theorem ltOf_std (x y : Itm) : Go.Proofs.ltOf stdF x y = aheadB x y := by
  unfold Go.Proofs.ltOf
  rw [Bool.eq_iff_iff, decide_eq_true_iff, stdF_neg, aheadB_iff]
theorem itm_same {x y : Itm} (h : ¬ Ahead x y) (k : ¬ Ahead y x) : x = y := by
  obtain ⟨s, c⟩ := x
  obtain ⟨t, d⟩ := y
  unfold Ahead at h k
  simp only [not_or, not_and] at h k
  have e : c = d := by omega
  subst e
  have e2 : s = t := Classical.byContradiction fun n => (lessK_total n).elim (h.2 rfl) (k.2 rfl)
  rw [e2]
theorem swoI : Go.Sort.SWO (Go.Proofs.ltOf stdF) where
  irrefl x := by
    rw [ltOf_std]
    cases e : aheadB x x with
    | false => rfl
    | true => exact absurd ((aheadB_iff _ _).1 e) (ahead_irrefl x)
  trans x y z h1 h2 := by
    rw [ltOf_std] at *
    exact (aheadB_iff _ _).2 (ahead_trans ((aheadB_iff _ _).1 h1) ((aheadB_iff _ _).1 h2))
  ntrans x y z h1 h2 := by
    rw [ltOf_std] at *
    have n1 : ¬ Ahead x y := fun h => by rw [(aheadB_iff _ _).2 h] at h1; cases h1
    have n2 : ¬ Ahead y z := fun h => by rw [(aheadB_iff _ _).2 h] at h2; cases h2
    cases e : aheadB x z with
    | false => rfl
    | true =>
      have a := (aheadB_iff _ _).1 e
      by_cases h : Ahead y x
      · exact absurd (ahead_trans h a) n2
      · rw [itm_same n1 h] at a
        exact absurd a n2
theorem cmpI_lays [Inhabited Itm] (blk off size : Nat) (w : World) : Go.Proofs.CmpLays Try.prog 31 #[] encI 2 stdF blk off size w := fun m os dk hdk x y =>
  (standing_any _ x.k x.c y.k y.c).mono fun e w' h => ⟨h.1, h.2.ex⟩
theorem holdsI [Inhabited Itm] {w : World} {Bd g cap : Nat} {l : List Itm} (h : w.ownsRow Bd 30 2 (.slice (some ⟨g, 0, none⟩) l.length cap) l.length (lCells l)) : Go.Sort.HoldsK encI 2 w g 0 l.toArray := by
  intro j hj
  have hj2 : j < l.length * 2 := by simpa using hj
  rw [Go.Sort.get_flatK _ _ _ _ (by simpa using hj2), Nat.zero_add]
  refine ⟨?_, World.ownsRow.frozenAt h j⟩
  rw [World.ownsRow.cellAt h j (by omega)]
  obtain ⟨x, hx⟩ : ∃ x, l[j / 2]? = some x := ⟨_, List.getElem?_eq_getElem (by omega)⟩
  obtain ⟨g1, g2⟩ := lCells_get l _ _ hx
  have e : l.toArray[j / 2]! = x := by
    rw [getElem!_pos l.toArray (j / 2) (by simp; omega)]
    have := (List.getElem?_eq_some_iff.1 hx).2
    simpa using this
  rw [e]
  rcases Nat.mod_two_eq_zero_or_one j with m | m
  · rw [show j / 2 * 2 = j by omega] at g1
    rw [g1, m]; rfl
  · rw [show j / 2 * 2 + 1 = j by omega] at g2
    rw [g2, m]; rfl
theorem sorted_list [Inhabited Itm] {l m : List Itm} {d : Array Itm} (hp : Go.Sort.PermIn 0 l.toArray.size l.toArray d) (hs : Go.Sort.SortedIn (Go.Proofs.ltOf stdF) 0 l.toArray.size d) (hm : StandsL m) (hk : l.Pairwise fun a b => a.k ≠ b.k) (e : ∀ x, x ∈ l ↔ x ∈ m) : d.toList = m ∧ d.size = l.length := by
  obtain ⟨h1, _, h3⟩ := hp
  have z : d.size = l.length := by simpa using h1
  have h4 : d.toList.Perm l := by
    have a1 : d.extract 0 l.toArray.size = d := by apply Array.extract_eq_self_of_le; omega
    have a2 : l.toArray.extract 0 l.toArray.size = l.toArray := by apply Array.extract_eq_self_of_le; omega
    rw [a1, a2] at h3
    simpa using h3
  refine ⟨stands_unique ?_ hm fun x => by rw [h4.mem_iff]; exact e x, z⟩
  have k2 : d.toList.Pairwise fun a b => a.k ≠ b.k := (h4.pairwise_iff (fun {_ _} h => Ne.symm h)).2 hk
  unfold StandsL
  rw [List.pairwise_iff_getElem] at k2 ⊢
  intro i j hi hj ij
  have ne := k2 i j hi hj ij
  refine ⟨?_, ne⟩
  have hi' : i < d.size := by simpa using hi
  have hj' : j < d.size := by simpa using hj
  have s1 := hs i j (Nat.zero_le _) ij (by simp; omega)
  rw [ltOf_std, getElem!_pos d j hj', getElem!_pos d i hi'] at s1
  have s2 : ¬ Ahead d[j] d[i] := fun h => by rw [(aheadB_iff _ _).2 h] at s1; cases s1
  have := (ahead_total ne).resolve_right (by simpa using s2)
  simpa using this
theorem grownBy_sortedK [Inhabited Itm] {w : World} {g n : Nat} {os : Array Obj} (d : Array Itm) : w.grownBy (Go.Proofs.sortWorldK encI 2 w g 0 n d os) (some g) := by
  refine ⟨rfl, rfl, rfl, by simp [Go.Proofs.sortWorldK, Go.Sort.putRowK, Go.Sort.ahead], fun k hk hne => ?_⟩
  unfold Go.Proofs.sortWorldK Go.Sort.putRowK
  rw [Go.Sort.heap_grow_old _ _ (by simpa [Go.Sort.ahead] using hk)]
  have : g ≠ k := fun e => hne (by rw [e])
  simp [Go.Sort.putRow, Go.Sort.mapBlock, Go.Sort.ahead, Array.getElem?_modify, this]
/-- Items in a row that is known, sorted. -/
theorem sortI_any (w : World) (Bd g cap : Nat) (l m : List Itm) (h : w.ownsRow Bd 30 2 (.slice (some ⟨g, 0, none⟩) l.length cap) l.length (lCells l)) (hc : l.length ≤ cap) (hn : l.length ≤ 100000) (hm : StandsL m) (hk : l.Pairwise fun a b => a.k ≠ b.k) (e : ∀ x, x ∈ l ↔ x ∈ m) (hg : Bd ≤ g) (hl : g < w.heap.size) (hb : Bd ≤ w.heap.size) :
    Calls Try.prog 30 #[.slice (some ⟨g, 0, none⟩) l.length cap, .func (.func 31) #[] #[]] w fun e w' => e = .returned (.tuple #[]) ∧ Held (fun q => q = g) (fun u => ItsL u (.slice (some ⟨g, 0, none⟩) l.length cap) m) w' ∧ Below Bd w w' := by
  haveI : Inhabited Itm := ⟨⟨⟨#[]⟩, 0⟩⟩
  have eg : ∀ args w, (callFunc 31 args).run Try.prog w = .ok (.enter 31 args) w := enters_of Try.func31 (by kernel_rfl) rfl
  have hcon := Go.Proofs.AnyQ.slices_SortFunc laysI 2 (fun w => by kernel_rfl) (fun w => by kernel_rfl) encI (fun _ => rfl) (fun x v hv => by simp [encI] at hv; rcases hv with rfl | rfl <;> rfl) stdF swoI 31 #[] g 0 cap l.toArray w eg (cmpI_lays g 0 _ w) (holdsI h) hl (by simp; omega)
  have ez : l.toArray.size = l.length := by simp
  rw [ez] at hcon
  refine Go.Calls.mono hcon ?_
  rintro e w' ⟨rfl, d', n, os, hp, hs, rfl⟩
  rw [← ez] at hp hs
  obtain ⟨ed, zd⟩ := sorted_list hp hs hm hk e
  have hH2 := Go.Proofs.holdsK_sortWorldK_c encI 2 w g 0 l.toArray d' n os (holdsI h) hl (by rw [zd]; simp)
  refine ⟨rfl, fun u hu => ?_, ?_⟩
  · have bl : g < (Go.Proofs.sortWorldK encI 2 w g 0 n d' os).heap.size := by have := (grownBy_sortedK (w := w) (g := g) (n := n) (os := os) d').size; omega
    have eb := hu.2 g rfl bl
    have ml : m.length = l.length := by rw [← ed]; simpa using zd
    refine ⟨some ⟨g, 0, none⟩, cap, g, 0, by rw [ml], by omega, fun _ => rfl, fun i x hi => ?_⟩
    have il : i < d'.size := by rw [zd, ← ml]; exact (List.getElem?_eq_some_iff.1 hi).1
    have ex : d'[i]! = x := by
      rw [getElem!_pos d' i il]
      rw [← ed] at hi
      have := (List.getElem?_eq_some_iff.1 hi).2
      simpa using this
    have c0 := (Go.Sort.HoldsK.cell hH2 (c := 0) il (by omega)).1
    have c1 := (Go.Sort.HoldsK.cell hH2 (c := 1) il (by omega)).1
    rw [ex] at c0 c1
    rw [World.cell?_of_block (w' := u) (a := ⟨g, 0 + i * 2, none⟩) eb, World.cell?_of_block (w' := u) (a := ⟨g, 0 + i * 2 + 1, none⟩) eb]
    exact ⟨c0, c1⟩
  · exact (Below.refl Bd w).grown (grownBy_sortedK d') hb (fun q hq => by cases hq; exact hg)
set_option maxHeartbeats 1600000 in
theorem list_core (w : World) (x : Value) (l m : List Itm) (T : Calls Try.prog 26 #[x] w fun e w' => ∃ lv, e = .returned lv ∧ ItsL w' lv l ∧ Below w.heap.size w w') (hn : l.length ≤ 100000) (hm : StandsL m) (hk : l.Pairwise fun a b => a.k ≠ b.k) (e : ∀ x, x ∈ l ↔ x ∈ m) :
    Calls Try.prog 17 #[x] w fun e w' => ∃ lv, e = .returned lv ∧ NewL w w' lv m ∧ Below w.heap.size w w' := by
  have TT := hid T
  have HM := hid hm
  have HK := hid hk
  have HE := hid e
  clear T hm hk e
  go_enter Try.func17, Try.ntmps17
  go_wp2_with fail
  refine TT.out.mono ?_
  rintro e u1 ⟨lv, rfl, L1, b1⟩
  have BE1 := hid b1
  clear b1
  obtain ⟨A, cap, b0, o0, rfl, hA⟩ := L1
  have L2 : Hid (ItsL u1 (.slice A l.length cap) l) := ⟨A, cap, b0, o0, rfl, hA⟩
  clear hA
  obtain ⟨n, hl⟩ : ∃ n, n = l.length := ⟨_, rfl⟩
  have HN := hid hl
  rw [← hl] at L2 hn ⊢
  clear hl
  go_wp2_with fail
  refine (cloneI_any u1 _ l L2.out (by rw [← HN.out]; exact hn)).mono ?_
  rintro e u2 ⟨v', rfl, O2, b2⟩
  have BE2 : Hid (Below w.heap.size w u2) := bel_trans BE1.out b2
  have z1 := BE1.out.size
  clear BE1 L2
  rw [← HN.out] at O2
  by_cases h0 : n = 0
  · have lz : l = [] := List.length_eq_zero_iff.1 (by rw [← HN.out]; exact h0)
    have mz : m = [] := by
      cases m with
      | nil => rfl
      | cons y r => have := (HE.out y).2 (List.mem_cons_self ..); rw [lz] at this; cases this
    obtain ⟨A2, cap2, hv⟩ : ∃ A2 cap2, v' = .slice A2 0 cap2 := by
      rcases O2.2 with ⟨h, _⟩ | ⟨g, c, cur, h, _⟩
      · exact ⟨none, 0, by rw [h]⟩
      · exact ⟨_, c, by rw [h, h0]⟩
    subst hv
    have SN : Hid (∀ fv, Calls Try.prog 30 #[.slice A2 0 cap2, fv] u2 fun e w' => e = .returned (.tuple #[]) ∧ w' = u2) := fun fv => Go.Proofs.AnyF.slices_SortFunc_none laysI A2 cap2 fv u2
    clear O2
    go_wp2_with fail
    refine (SN.out _).mono ?_
    rintro e u3 ⟨rfl, rfl⟩
    go_wp2_with fail
    go_ret
    refine ⟨_, rfl, fun u hu => ⟨A2, cap2, 0, 0, by rw [mz]; rfl, by rw [mz]; exact Nat.zero_le _, fun h => by rw [mz] at h; simp at h, fun i x h => by rw [mz] at h; simp at h⟩, BE2.out⟩
  · obtain ⟨g, cap2, hv, hg, hgl⟩ := World.ownsRow.form O2 (by omega)
    subst hv
    have hcap : n ≤ cap2 := by
      rcases O2.2 with ⟨h, _⟩ | ⟨g', c, cur, h, _, _, hc, _⟩
      · cases h
      · injection h with _ _ h
        omega
    have SS : Hid (Calls Try.prog 30 #[.slice (some ⟨g, 0, none⟩) n cap2, .func (.func 31) #[] #[]] u2 fun e w' => e = .returned (.tuple #[]) ∧ Held (fun q => q = g) (fun u => ItsL u (.slice (some ⟨g, 0, none⟩) n cap2) m) w' ∧ Below w.heap.size u2 w') := by
      have := sortI_any u2 w.heap.size g cap2 l m (by rw [← HN.out]; exact ⟨O2.1, by
        rcases O2.2 with h | ⟨g', c, cur, h, hb, r⟩
        · exact Or.inl h
        · exact Or.inr ⟨g', c, cur, h, by omega, r⟩⟩) (by rw [← HN.out]; exact hcap) (by rw [← HN.out]; exact hn) HM.out HK.out HE.out (by omega) hgl BE2.out.size
      rw [← HN.out] at this
      exact this
    have GG : Hid (w.heap.size ≤ g) := show _ ≤ _ by omega
    clear O2 hcap hg hgl
    go_wp2_with fail
    refine SS.out.mono ?_
    rintro e u3 ⟨rfl, h3, b3⟩
    have HH := hid h3
    clear h3
    go_wp2_with fail
    go_ret
    exact ⟨_, rfl, HH.out.mono fun q _ hq => by rw [hq]; exact GG.out, BE2.out.trans b3⟩
theorem lstL_take (a : Nat → Itm) {n k : Nat} (h : n ≤ k) : (lstL k a).take n = lstL n a := by
  apply List.ext_getElem?
  intro i
  rw [List.getElem?_take]
  by_cases e : i < n
  · rw [if_pos e, lstL_get a e, lstL_get a (by omega)]
  · rw [if_neg e, lstL_out a (by omega)]
theorem list_any (w : World) (Bd p g b room n : Nat) (a : Nat → Itm) (F : ByteArray → Option Int) (m : List Itm) (h : HevL w Bd p g b room n a F m) : Calls Try.prog 17 #[.pointer (some ⟨p, 0, none⟩)] w fun e w' => ∃ lv, e = .returned lv ∧ NewL w w' lv m ∧ Below w.heap.size w w' := by
  have nr := h.at'.nr
  have r64 := h.at'.r64
  refine list_core w _ (lstL n a) m ((taken_any w Bd p g b room n a F h.at').mono ?_) (by rw [lstL_len]; omega) h.holds.stands ?_ fun x => by rw [lstL_mem, h.holds.mem]
  · rintro e w' ⟨rfl, g1⟩
    refine ⟨_, rfl, ?_, g1.below⟩
    have := (h.at'.grn g1).row.its.take n (by rw [lstL_len]; exact nr)
    rwa [lstL_take a nr] at this
  · rw [List.pairwise_iff_getElem]
    intro i j hi hj ij e
    have li : i < n := by rw [lstL_len] at hi; exact hi
    have lj : j < n := by rw [lstL_len] at hj; exact hj
    have e1 := lstL_get a li
    have e2 := lstL_get a lj
    rw [List.getElem?_eq_getElem hi] at e1
    rw [List.getElem?_eq_getElem hj] at e2
    injection e1 with e1
    injection e2 with e2
    rw [e1, e2] at e
    have := h.holds.inj i j li lj e
    omega
theorem list_nil (w : World) : Calls Try.prog 17 #[.pointer none] w fun e w' => ∃ lv, e = .returned lv ∧ NewL w w' lv [] ∧ Below w.heap.size w w' :=
  list_core w _ [] [] ((taken_nil w).mono fun e w' h => ⟨_, h.1, by rw [h.2]; exact its_none w, by rw [h.2]; exact Below.refl _ _⟩) (by simp) List.Pairwise.nil List.Pairwise.nil fun x => Iff.rfl
end Go.Proofs.Ytejdfahokbheoaa
