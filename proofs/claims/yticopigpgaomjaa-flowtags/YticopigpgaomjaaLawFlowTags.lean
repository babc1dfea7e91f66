/-
  Of any bytes, at most 1024, from which a flow is extracted: with a tag more ahead, and at most 100 bytes more behind, the flow is the same. No condition.
-/
import Derived.Test.YticopigpgaomjaaRows
import Derived.Test.YticopigpgaomjaaFlowTake
import Derived.Test.YticopigpgaomjaaBytesKit
import Derived.WalkKit
import Derived.ProofKit
import Derived.OpenShut
import Derived.ShutString
import Derived.ChangeOld
import Derived.ChangeMaps5
import Derived.Below
import Derived.Carry
import Derived.Laws.StructEq
import Derived.Deep.Cut
import Derived.Deep.CutRange
namespace Go.Proofs.Yticopigpgaomjaa.flowTags
open Oc Pt Fl Go.Deep
open Go.ChangeShapes Go.WideShapes Go.ChangeAt Go.RowKit Go.ChangeMaps
set_option linter.unusedVariables false

theorem own : ownKnob Try.prog.godebug = none := by kernel_rfl

theorem tag_bytes {V : Nat} (h : V < 65536) : ([129, 0, UInt8.ofNat (V / 256), UInt8.ofNat (V % 256)].map fun c => Value.int .u8 (c.toNat : Int)).toArray = #[.int .u8 129, .int .u8 0, .int .u8 ((V : Int) / 256), .int .u8 ((V : Int) % 256)] := by
  have e : ∀ n, n < 256 → (UInt8.ofNat n).toNat = n := fun n h => UInt8.toNat_ofNat_of_lt' h
  simp only [List.map_cons, List.map_nil]
  rw [e (V / 256) (by omega), e (V % 256) (by omega)]
  simp
theorem put5_keep {w : World} {g q : Nat} {t : TypeId} {cs : Array Value} (h : Blk w q t cs) (hq : q ≠ g) (a0 a1 a2 a3 a4 : Value) : Blk (put5 w g a0 a1 a2 a3 a4) q t cs :=
  (((((h.other (a := ⟨g, 0, none⟩) hq a0).other (a := ⟨g, 1, none⟩) hq a1).other (a := ⟨g, 2, none⟩) hq a2).other (a := ⟨g, 3, none⟩) hq a3).other (a := ⟨g, 4, none⟩) hq a4)
set_option maxRecDepth 8000 in
set_option maxHeartbeats 6400000 in
theorem walk (s : ByteArray) (y : Int) (t : ByteArray) (w : World) (ws : s.size ≤ maxLen) (wy : (Lit.int .u16 y).wf = true) (wt : t.size ≤ maxLen) :
    Calls Try.prog 8 #[.string s, .int .u16 y, .string t] w fun e w' => e = .returned (.bool true) ∧ Below w.heap.size w w' := by
  obtain ⟨l, rfl⟩ : ∃ l, s = bsL l := ⟨_, bsL_of s⟩
  obtain ⟨m, rfl⟩ : ∃ m, t = bsL m := ⟨_, bsL_of t⟩
  rw [bsL_size] at ws wt
  obtain ⟨y0, y1⟩ := bounds_u16 wy
  clear wy
  obtain ⟨V, rfl⟩ : ∃ V : Nat, y = V := ⟨y.toNat, by omega⟩
  have hV : V < 65536 := by omega
  clear y0 y1
  by_cases h1 : 1024 < l.length
  · go_enter Try.func8, Try.ntmps8
    go_wp2_with fail
    refine (fl_awake _).mono ?_
    rintro e u9 ⟨rfl, b9⟩
    go_wp2_with fail
    go_ret
    exact ⟨rfl, b9⟩
  by_cases h2 : 100 < m.length
  · go_enter Try.func8, Try.ntmps8
    go_wp2_with fail
    refine (fl_awake _).mono ?_
    rintro e u9 ⟨rfl, b9⟩
    go_wp2_with fail
    go_ret
    exact ⟨rfl, b9⟩
  by_cases h3 : l.length < 14
  · go_enter Try.func8, Try.ntmps8
    go_wp2_with fail
    refine (fl_awake _).mono ?_
    rintro e u9 ⟨rfl, b9⟩
    go_wp2_with fail
    go_ret
    exact ⟨rfl, b9⟩
  go_enter Try.func8, Try.ntmps8
  go_wp2_with fail
  refine (fl_extract _ l (by omega)).mono ?_
  rintro e u1 ⟨s1, d1, p1, a1, c1, E1, rfl, hE, bb⟩
  have HE1 : Hid (ansOf l = ⟨⟨s1, d1, p1, a1, c1⟩, E1⟩) := hE
  have BU1 : Hid (Below w.heap.size w u1) := bb
  clear hE bb
  have BB1 : Hid (Below w.heap.size w (u1.alloc (.cells #[.string (bsL s1), .string (bsL d1), .int .i64 p1, .int .i64 (a1 : Int), .int .i64 (c1 : Int)] 24))) := bel_trans BU1.out (bel_alloc _ _)
  have SB1 : Hid (Blk (u1.alloc (.cells #[.string (bsL s1), .string (bsL d1), .int .i64 p1, .int .i64 (a1 : Int), .int .i64 (c1 : Int)] 24)) u1.heap.size 24 #[.string (bsL s1), .string (bsL d1), .int .i64 p1, .int .i64 (a1 : Int), .int .i64 (c1 : Int)]) := Blk.new _ _ _
  by_cases h0 : E1 = 0
  rotate_left
  · have q0 : ((E1 : Int) != 0) = true := by simp; omega
    clear h0
    go_wp2_with fail
    refine (L5.etake_any _ l (by omega)).mono ?_
    rintro e u2 ⟨x, rfl, hx, b2⟩
    obtain ⟨v, rfl, ht⟩ := hx
    obtain ⟨A, cap, rfl⟩ := ht.form
    clear ht
    obtain ⟨n, hn⟩ : ∃ n, n = (Et.frOf l).n := ⟨_, rfl⟩
    obtain ⟨dd, hdd⟩ : ∃ x, x = (Et.frOf l).d := ⟨_, rfl⟩
    obtain ⟨ds, hds⟩ : ∃ x, x = (Et.frOf l).s := ⟨_, rfl⟩
    obtain ⟨TT, hT⟩ : ∃ x, x = (Et.frOf l).T := ⟨_, rfl⟩
    obtain ⟨r, hr⟩ : ∃ x, x = Et.restOf l := ⟨_, rfl⟩
    obtain ⟨c, hc⟩ : ∃ x, x = Et.takeE l := ⟨_, rfl⟩
    rw [← hn, ← hdd, ← hds, ← hT, ← hr, ← hc]
    have HN : Hid (n = (Et.frOf l).n) := hn
    have SC1 : Hid (Blk u2 u1.heap.size 24 #[.string (bsL s1), .string (bsL d1), .int .i64 p1, .int .i64 (a1 : Int), .int .i64 (c1 : Int)]) := SB1.out.since b2
    have pl : u1.heap.size < u2.heap.size := SC1.out.lt
    have BB2 : Hid (Below w.heap.size w (u2.alloc (.cells #[.string (bsL dd), .string (bsL ds), .slice A n cap, .int .i64 TT] 40))) := bel_trans (bel_trans BB1.out b2) (bel_alloc _ _)
    clear hn hdd hds hT hr hc b2
    go_wp2_with fail
    refine (fl_awake _).mono ?_
    rintro e u9 ⟨rfl, b9⟩
    go_wp2_with fail
    go_ret
    exact ⟨rfl, bel_trans BB2.out b9⟩
  subst h0
  go_wp2_with fail
  refine (L5.etake_any _ l (by omega)).mono ?_
  rintro e u2 ⟨x, rfl, hx, b2⟩
  obtain ⟨v, rfl, ht⟩ := hx
  obtain ⟨A, cap, rfl⟩ := ht.form
  clear ht
  obtain ⟨n, hn⟩ : ∃ n, n = (Et.frOf l).n := ⟨_, rfl⟩
  obtain ⟨dd, hdd⟩ : ∃ x, x = (Et.frOf l).d := ⟨_, rfl⟩
  obtain ⟨ds, hds⟩ : ∃ x, x = (Et.frOf l).s := ⟨_, rfl⟩
  obtain ⟨TT, hT⟩ : ∃ x, x = (Et.frOf l).T := ⟨_, rfl⟩
  obtain ⟨r, hr⟩ : ∃ x, x = Et.restOf l := ⟨_, rfl⟩
  obtain ⟨c, hc⟩ : ∃ x, x = Et.takeE l := ⟨_, rfl⟩
  rw [← hn, ← hdd, ← hds, ← hT, ← hr, ← hc]
  have HN : Hid (n = (Et.frOf l).n) := hn
  have SC1 : Hid (Blk u2 u1.heap.size 24 #[.string (bsL s1), .string (bsL d1), .int .i64 p1, .int .i64 (a1 : Int), .int .i64 (c1 : Int)]) := SB1.out.since b2
  have pl : u1.heap.size < u2.heap.size := SC1.out.lt
  have BB2 : Hid (Below w.heap.size w (u2.alloc (.cells #[.string (bsL dd), .string (bsL ds), .slice A n cap, .int .i64 TT] 40))) := bel_trans (bel_trans BB1.out b2) (bel_alloc _ _)
  clear hn hdd hds hT hr hc b2
  by_cases hn : 1 < n
  · go_wp2_with fail
    refine (fl_awake _).mono ?_
    rintro e u9 ⟨rfl, b9⟩
    go_wp2_with fail
    go_ret
    exact ⟨rfl, bel_trans BB2.out b9⟩
  have TM : Hid (ansOf (l.take 12 ++ [129, 0, UInt8.ofNat (V / 256), UInt8.ofNat (V % 256)] ++ l.drop 12 ++ m) = ⟨⟨s1, d1, p1, a1, c1⟩, 0⟩) := by
    show ansOf _ = _
    rw [tag_more (l := l) (by rw [HE1.out]) (by rw [← HN.out]; omega) rfl rfl (by omega)]
    exact HE1.out
  obtain ⟨z, hz⟩ : ∃ z, z = [129, 0, UInt8.ofNat (V / 256), UInt8.ofNat (V % 256)] := ⟨_, rfl⟩
  rw [← hz] at TM
  have lz : z.length = 4 := by rw [hz]; rfl
  have cv : (convert 51 9 (.slice (some ⟨u2.heap.size + 1, 0, none⟩) 4 4)).run Try.prog ((u2.alloc (.cells #[.string (bsL dd), .string (bsL ds), .slice A n cap, .int .i64 TT] 40)).alloc (.cells #[.int .u8 129, .int .u8 0, .int .u8 ((V : Int) / 256), .int .u8 ((V : Int) % 256)] 5)) = .ok (.string (bsL z)) ((u2.alloc (.cells #[.string (bsL dd), .string (bsL ds), .slice A n cap, .int .i64 TT] 40)).alloc (.cells #[.int .u8 129, .int .u8 0, .int .u8 ((V : Int) / 256), .int .u8 ((V : Int) % 256)] 5)) := by
    have nb := Blk.new (u2.alloc (.cells #[.string (bsL dd), .string (bsL ds), .slice A n cap, .int .i64 TT] 40)) 5 #[.int .u8 129, .int .u8 0, .int .u8 ((V : Int) / 256), .int .u8 ((V : Int) % 256)]
    rw [← tag_bytes hV] at nb
    have e := conv_blk _ nb
    rw [tag_bytes hV, ← hz] at e
    simpa [lz] using e
  have D12 := bsL_drop l 12
  rw [bsL_size] at D12
  have E12 := bsL_take l 12
  obtain ⟨x1, hx1⟩ : ∃ x, x = l.take 12 := ⟨_, rfl⟩
  obtain ⟨x2, hx2⟩ : ∃ x, x = l.drop 12 := ⟨_, rfl⟩
  have lx1 : x1.length = 12 := by rw [hx1]; simp; omega
  obtain ⟨N2, lx2⟩ : ∃ N2, x2.length = N2 := ⟨_, rfl⟩
  have n2 : N2 ≤ 1012 := by rw [← lx2, hx2]; simp; omega
  rw [← hx2] at D12
  rw [← hx1] at E12
  rw [← hx1, ← hx2] at TM
  have HL : Hid ((x1 ++ (z ++ (x2 ++ m))).length ≤ 1152921504606846976) := by show _ ≤ _; simp only [List.length_append, lx1, lx2, lz]; omega
  have e1 : ¬ 9223372036854775807 < 16 + N2 := by omega
  have e2 : ¬ 9223372036854775807 < 12 + (4 + N2) + m.length := by omega
  have e3 : ¬ 9223372036854775807 < 16 + N2 + m.length := by omega
  have e4 : ¬ 9223372036854775807 < 12 + (4 + N2) := by omega
  have TM2 : Hid (ansOf (x1 ++ (z ++ (x2 ++ m))) = ⟨⟨s1, d1, p1, a1, c1⟩, 0⟩) := by
    have e := TM.out
    simp only [List.append_assoc] at e
    exact e
  clear hz hx1 hx2 TM
  have i12 : (12 : Int) ≤ l.length := by omega
  have hsm : l.length ≤ 1024 := by omega
  have hmm : m.length ≤ 100 := by omega
  go_upto_region 8 with fail
  have HX : Hid (Below w.heap.size w ((u2.alloc (.cells #[.string (bsL dd), .string (bsL ds), .slice A n cap, .int .i64 TT] 40)).alloc (.cells #[.int .u8 129, .int .u8 0, .int .u8 ((V : Int) / 256), .int .u8 ((V : Int) % 256)] 5)) ∧ Blk ((u2.alloc (.cells #[.string (bsL dd), .string (bsL ds), .slice A n cap, .int .i64 TT] 40)).alloc (.cells #[.int .u8 129, .int .u8 0, .int .u8 ((V : Int) / 256), .int .u8 ((V : Int) % 256)] 5)) u1.heap.size 24 #[.string (bsL s1), .string (bsL d1), .int .i64 p1, .int .i64 (a1 : Int), .int .i64 (c1 : Int)]) := ⟨bel_trans BB2.out (bel_alloc _ _), (SC1.out.alloc _).alloc _⟩
  generalize (u2.alloc (.cells #[.string (bsL dd), .string (bsL ds), .slice A n cap, .int .i64 TT] 40)).alloc (.cells #[.int .u8 129, .int .u8 0, .int .u8 ((V : Int) / 256), .int .u8 ((V : Int) % 256)] 5) = X at HX ⊢
  clear cv
  go_cut [13, 14] from 56 (fun s13 s14 wx => ∃ g, (s13 = .pointer (some ⟨g, 0, none⟩) ∧ s14 = .int .i64 0) ∧ Below w.heap.size w wx ∧ Blk wx g 24 #[.string (bsL s1), .string (bsL d1), .int .i64 p1, .int .i64 (a1 : Int), .int .i64 (c1 : Int)] ∧ Blk wx u1.heap.size 24 #[.string (bsL s1), .string (bsL d1), .int .i64 p1, .int .i64 (a1 : Int), .int .i64 (c1 : Int)])
  case first =>
    refine wp_region_noPanic ?_
    have HD : Hid (Below w.heap.size w X.drew ∧ Blk X.drew u1.heap.size 24 #[.string (bsL s1), .string (bsL d1), .int .i64 p1, .int .i64 (a1 : Int), .int .i64 (c1 : Int)]) := ⟨HX.out.1.drew, HX.out.2.drew⟩
    refine wp_region_held_drew (S := fun _ => True) (by kernel_rfl) trivial (fun hHeld => ?_)
    clear hHeld
    generalize X.drew = v0 at HD ⊢
    refine wpAnyH_take (i := 0) (v := ?_) rfl (by kernel_rfl) (by kernel_rfl) (by kernel_rfl) (fun _ _ _ h => h) (Or.inl ⟨by rfl, ?_⟩) trivial ?_
    rotate_left
    · intro w hSw; go_simp; first | done | with_reducible rfl
    simp only [List.getElem_toArray, List.getElem_cons_zero, Act.put, List.setIfInBounds_toArray, List.set_cons_zero, List.set_cons_succ]
    refine wpAnyH_take (i := 1) (v := ?_) rfl (by kernel_rfl) (by kernel_rfl) (by kernel_rfl) (fun _ _ _ h => h) (Or.inl ⟨by rfl, ?_⟩) trivial ?_
    rotate_left
    · intro w hSw; go_simp; first | done | with_reducible rfl
    simp only [List.getElem_toArray, List.getElem_cons_zero, List.getElem_cons_succ, Act.put, List.setIfInBounds_toArray, List.set_cons_zero, List.set_cons_succ]
    refine wpAnyH_take (i := 2) (v := ?_) rfl (by kernel_rfl) (by kernel_rfl) (by kernel_rfl) (fun _ _ _ h => h) (Or.inl ⟨by rfl, ?_⟩) trivial ?_
    rotate_left
    · intro w hSw; go_simp; first | done | with_reducible rfl
    simp only [List.getElem_toArray, List.getElem_cons_zero, List.getElem_cons_succ, Act.put, List.setIfInBounds_toArray, List.set_cons_zero, List.set_cons_succ]
    refine wpAnyH_take (i := 3) (v := ?_) rfl (by kernel_rfl) (by kernel_rfl) (by kernel_rfl) (fun _ _ _ h => h) (Or.inl ⟨by rfl, ?_⟩) trivial ?_
    rotate_left
    · intro w hSw; go_simp; first | done | with_reducible rfl
    simp only [List.getElem_toArray, List.getElem_cons_zero, List.getElem_cons_succ, Act.put, List.setIfInBounds_toArray, List.set_cons_zero, List.set_cons_succ]
    refine wpAnyH_take (i := 4) (v := ?_) rfl (by kernel_rfl) (by kernel_rfl) (by kernel_rfl) (fun _ _ _ h => h) (Or.inl ⟨by rfl, ?_⟩) trivial ?_
    rotate_left
    · intro w hSw; go_simp; first | done | with_reducible rfl
    simp only [List.getElem_toArray, List.getElem_cons_zero, List.getElem_cons_succ, Act.put, List.setIfInBounds_toArray, List.set_cons_zero, List.set_cons_succ]
    refine wpAnyH_take (i := 5) (v := ?_) rfl (by kernel_rfl) (by kernel_rfl) (by kernel_rfl) (fun _ _ _ h => h) (Or.inl ⟨by rfl, ?_⟩) trivial ?_
    rotate_left
    · intro w hSw; go_simp; first | done | with_reducible rfl
    simp only [List.getElem_toArray, List.getElem_cons_zero, List.getElem_cons_succ, Act.put, List.setIfInBounds_toArray, List.set_cons_zero, List.set_cons_succ]
    refine wpAnyH_take (i := 6) (v := ?_) rfl (by kernel_rfl) (by kernel_rfl) (by kernel_rfl) (fun _ _ _ h => h) (Or.inl ⟨by rfl, ?_⟩) trivial ?_
    rotate_left
    · intro w hSw; go_simp; first | done | with_reducible rfl
    simp only [List.getElem_toArray, List.getElem_cons_zero, List.getElem_cons_succ, Act.put, List.setIfInBounds_toArray, List.set_cons_zero, List.set_cons_succ]
    refine wpAnyH_take (i := 7) (v := ?_) rfl (by kernel_rfl) (by kernel_rfl) (by kernel_rfl) (fun _ _ _ h => h) (Or.inl ⟨by rfl, ?_⟩) trivial ?_
    rotate_left
    · intro w hSw; go_simp; first | done | with_reducible rfl
    simp only [List.getElem_toArray, List.getElem_cons_zero, List.getElem_cons_succ, Act.put, List.setIfInBounds_toArray, List.set_cons_zero, List.set_cons_succ]
    refine wpAnyH_take (i := 8) (v := ?_) rfl (by kernel_rfl) (by kernel_rfl) (by kernel_rfl) (fun _ _ _ h => h) (Or.inl ⟨by rfl, ?_⟩) trivial ?_
    rotate_left
    · intro w hSw; go_simp; first | done | with_reducible rfl
    simp only [List.getElem_toArray, List.getElem_cons_zero, List.getElem_cons_succ, Act.put, List.setIfInBounds_toArray, List.set_cons_zero, List.set_cons_succ]
    refine wpAnyH_ready (rs := [9, 13]) (by kernel_rfl) (by simp) ?_
    refine AllReadyH.cons rfl (fun K hK => ?_) ?_
    · go_simp
      go_at_call 10
      refine (fl_extract _ (x1 ++ (z ++ (x2 ++ m))) HL.out).mono ?_
      rintro e q1 ⟨s2, d2, p2, a2, c2, E2, rfl, hE, bb⟩
      rw [TM2.out] at hE
      obtain ⟨g0, rfl⟩ := Ans.mk.inj hE
      obtain ⟨rfl, rfl, rfl, rfl, rfl⟩ := Fw.mk.inj g0
      clear g0 hE
      have H1 : Hid (Below w.heap.size w q1 ∧ Blk q1 u1.heap.size 24 #[.string (bsL s1), .string (bsL d1), .int .i64 p1, .int .i64 (a1 : Int), .int .i64 (c1 : Int)]) := ⟨bel_trans HD.out.1 bb, HD.out.2.since bb⟩
      clear bb
      go_wp2_with fail
      refine hK.out _ _ trivial (fun hHeld => ?_)
      clear hK K hHeld
      refine wpAnyH_take (i := 10) (v := ?_) rfl (by kernel_rfl) (by kernel_rfl) (by kernel_rfl) (fun _ _ _ h => h) (Or.inl ⟨by rfl, ?_⟩) trivial ?_
      rotate_left
      · intro w hSw; go_simp; first | done | with_reducible rfl
      simp only [List.getElem_toArray, List.getElem_cons_zero, List.getElem_cons_succ, Act.put, List.setIfInBounds_toArray, List.set_cons_zero, List.set_cons_succ]
      refine wpAnyH_take (i := 11) (v := ?_) rfl (by kernel_rfl) (by kernel_rfl) (by kernel_rfl) (fun _ _ _ h => h) (Or.inl ⟨by rfl, ?_⟩) trivial ?_
      rotate_left
      · intro w hSw; go_simp; first | done | with_reducible rfl
      simp only [List.getElem_toArray, List.getElem_cons_zero, List.getElem_cons_succ, Act.put, List.setIfInBounds_toArray, List.set_cons_zero, List.set_cons_succ]
      refine wpAnyH_take (i := 12) (v := ?_) rfl (by kernel_rfl) (by kernel_rfl) (by kernel_rfl) (fun _ _ _ h => h) (Or.inl ⟨by rfl, ?_⟩) trivial ?_
      rotate_left
      · intro w hSw; go_simp; first | done | with_reducible rfl
      simp only [List.getElem_toArray, List.getElem_cons_zero, List.getElem_cons_succ, Act.put, List.setIfInBounds_toArray, List.set_cons_zero, List.set_cons_succ]
      refine wpAnyH_ready (rs := [13]) (by kernel_rfl) (by simp) ?_
      refine AllReadyH.cons rfl (fun K hK => ?_) ?_
      rotate_left
      · exact AllReadyH.nil
      go_simp
      refine hK.out _ _ trivial (fun hHeld => ?_)
      clear hK K hHeld
      refine wpAnyH_ready (rs := [14]) (by kernel_rfl) (by simp) ?_
      refine AllReadyH.cons rfl (fun K hK => ?_) ?_
      rotate_left
      · exact AllReadyH.nil
      go_simp
      refine hK.out _ _ trivial (fun hHeld => ?_)
      clear hK K hHeld
      refine wpAnyH_take (i := 15) (v := ?_) rfl (by kernel_rfl) (by kernel_rfl) (by kernel_rfl) (fun _ _ _ h => h) (Or.inl ⟨by rfl, ?_⟩) trivial ?_
      rotate_left
      · intro w hSw; go_simp; first | done | with_reducible rfl
      simp only [List.getElem_toArray, List.getElem_cons_zero, List.getElem_cons_succ, Act.put, List.setIfInBounds_toArray, List.set_cons_zero, List.set_cons_succ]
      refine wpAnyH_done (by kernel_rfl) ?_ _
      refine NoPanic.normal ?_
      go_wp2_with fail
      go_meet
      case rel => exact ⟨_, ⟨rfl, rfl⟩, bel_trans H1.out.1 (bel_alloc _ _), Blk.new _ _ _, H1.out.2.alloc _⟩
    refine AllReadyH.cons rfl (fun K hK => ?_) ?_
    · have H2 : Hid (Below w.heap.size w (v0.alloc (.cells #[.string ⟨#[]⟩, .string ⟨#[]⟩, .int .i64 0, .int .i64 0, .int .i64 0] 24)) ∧ Blk (v0.alloc (.cells #[.string ⟨#[]⟩, .string ⟨#[]⟩, .int .i64 0, .int .i64 0, .int .i64 0] 24)) u1.heap.size 24 #[.string (bsL s1), .string (bsL d1), .int .i64 p1, .int .i64 (a1 : Int), .int .i64 (c1 : Int)] ∧ Blk (v0.alloc (.cells #[.string ⟨#[]⟩, .string ⟨#[]⟩, .int .i64 0, .int .i64 0, .int .i64 0] 24)) v0.heap.size 24 #[.string ⟨#[]⟩, .string ⟨#[]⟩, .int .i64 0, .int .i64 0, .int .i64 0] ∧ u1.heap.size ≠ v0.heap.size) := ⟨bel_trans HD.out.1 (bel_alloc _ _), HD.out.2.alloc _, Blk.new _ _ _, by have := HD.out.2.lt; omega⟩
      have hw0 : w.heap.size ≤ v0.heap.size := HD.out.1.size
      go_simp
      generalize v0.alloc (.cells #[.string ⟨#[]⟩, .string ⟨#[]⟩, .int .i64 0, .int .i64 0, .int .i64 0] 24) = v1 at H2 ⊢
      generalize v0.heap.size = gv at H2 hw0 ⊢
      refine hK.out _ _ trivial (fun hHeld => ?_)
      clear hK K hHeld
      refine wpAnyH_ready (rs := [9]) (by kernel_rfl) (by simp) ?_
      refine AllReadyH.cons rfl (fun K hK => ?_) ?_
      rotate_left
      · exact AllReadyH.nil
      go_simp
      go_at_call 10
      refine (fl_extract _ (x1 ++ (z ++ (x2 ++ m))) HL.out).mono ?_
      rintro e q1 ⟨s2, d2, p2, a2, c2, E2, rfl, hE, bb⟩
      rw [TM2.out] at hE
      obtain ⟨g0, rfl⟩ := Ans.mk.inj hE
      obtain ⟨rfl, rfl, rfl, rfl, rfl⟩ := Fw.mk.inj g0
      clear g0 hE
      have H3 : Hid (Below w.heap.size w q1 ∧ Blk q1 u1.heap.size 24 #[.string (bsL s1), .string (bsL d1), .int .i64 p1, .int .i64 (a1 : Int), .int .i64 (c1 : Int)] ∧ Blk q1 gv 24 #[.string ⟨#[]⟩, .string ⟨#[]⟩, .int .i64 0, .int .i64 0, .int .i64 0]) := ⟨bel_trans H2.out.1 bb, H2.out.2.1.since bb, H2.out.2.2.1.since bb⟩
      clear bb
      go_wp2_with fail
      refine hK.out _ _ trivial (fun hHeld => ?_)
      clear hK K hHeld
      refine wpAnyH_take (i := 10) (v := ?_) rfl (by kernel_rfl) (by kernel_rfl) (by kernel_rfl) (fun _ _ _ h => h) (Or.inl ⟨by rfl, ?_⟩) trivial ?_
      rotate_left
      · intro w hSw; go_simp; first | done | with_reducible rfl
      simp only [List.getElem_toArray, List.getElem_cons_zero, List.getElem_cons_succ, Act.put, List.setIfInBounds_toArray, List.set_cons_zero, List.set_cons_succ]
      refine wpAnyH_take (i := 11) (v := ?_) rfl (by kernel_rfl) (by kernel_rfl) (by kernel_rfl) (fun _ _ _ h => h) (Or.inl ⟨by rfl, ?_⟩) trivial ?_
      rotate_left
      · intro w hSw; go_simp; first | done | with_reducible rfl
      simp only [List.getElem_toArray, List.getElem_cons_zero, List.getElem_cons_succ, Act.put, List.setIfInBounds_toArray, List.set_cons_zero, List.set_cons_succ]
      refine wpAnyH_take (i := 12) (v := ?_) rfl (by kernel_rfl) (by kernel_rfl) (by kernel_rfl) (fun _ _ _ h => h) (Or.inl ⟨by rfl, ?_⟩) trivial ?_
      rotate_left
      · intro w hSw; go_simp; first | done | with_reducible rfl
      simp only [List.getElem_toArray, List.getElem_cons_zero, List.getElem_cons_succ, Act.put, List.setIfInBounds_toArray, List.set_cons_zero, List.set_cons_succ]
      have x0 : q1.cell? ⟨gv, 0, none⟩ = some (.string ⟨#[]⟩) := H3.out.2.2.cell 0
      have x1 : q1.cell? ⟨gv, 1, none⟩ = some (.string ⟨#[]⟩) := H3.out.2.2.cell 1
      have x2 : q1.cell? ⟨gv, 2, none⟩ = some (.int .i64 0) := H3.out.2.2.cell 2
      have x3 : q1.cell? ⟨gv, 3, none⟩ = some (.int .i64 0) := H3.out.2.2.cell 3
      have x4 : q1.cell? ⟨gv, 4, none⟩ = some (.int .i64 0) := H3.out.2.2.cell 4
      have y0 := H3.out.2.2.frozen 0
      have y1 := H3.out.2.2.frozen 1
      have y2 := H3.out.2.2.frozen 2
      have y3 := H3.out.2.2.frozen 3
      have y4 := H3.out.2.2.frozen 4
      refine wpAnyH_ready (rs := [14]) (by kernel_rfl) (by simp) ?_
      refine AllReadyH.cons rfl (fun K hK => ?_) ?_
      rotate_left
      · exact AllReadyH.nil
      go_simp
      refine hK.out _ _ trivial (fun hHeld => ?_)
      clear hK K hHeld
      refine wpAnyH_take (i := 15) (v := ?_) rfl (by kernel_rfl) (by kernel_rfl) (by kernel_rfl) (fun _ _ _ h => h) (Or.inl ⟨by rfl, ?_⟩) trivial ?_
      rotate_left
      · intro w hSw; go_simp; first | done | with_reducible rfl
      simp only [List.getElem_toArray, List.getElem_cons_zero, List.getElem_cons_succ, Act.put, List.setIfInBounds_toArray, List.set_cons_zero, List.set_cons_succ]
      refine wpAnyH_done (by kernel_rfl) ?_ _
      refine NoPanic.normal ?_
      go_wp2_with fail
      go_meet
      case rel => exact ⟨_, ⟨rfl, rfl⟩, put5_below H3.out.1 hw0 _ _ _ _ _, put5_blk H3.out.2.2 _ _ _ _ _, put5_keep H3.out.2.1 H2.out.2.2.2 _ _ _ _ _⟩
    exact AllReadyH.nil
  case rest =>
    obtain ⟨g, ⟨rfl, rfl⟩, bc, kg, k1⟩ := hcut
    have BC : Hid (Below w.heap.size w wc) := bc
    have KG : Hid (Blk wc g 24 #[.string (bsL s1), .string (bsL d1), .int .i64 p1, .int .i64 (a1 : Int), .int .i64 (c1 : Int)] ∧ Blk wc u1.heap.size 24 #[.string (bsL s1), .string (bsL d1), .int .i64 p1, .int .i64 (a1 : Int), .int .i64 (c1 : Int)]) := ⟨kg, k1⟩
    clear bc kg k1
    have x0 : wc.cell? ⟨g, 0, none⟩ = some (.string (bsL s1)) := KG.out.1.cell 0
    have x1 : wc.cell? ⟨g, 1, none⟩ = some (.string (bsL d1)) := KG.out.1.cell 1
    have x2 : wc.cell? ⟨g, 2, none⟩ = some (.int .i64 p1) := KG.out.1.cell 2
    have x3 : wc.cell? ⟨g, 3, none⟩ = some (.int .i64 (a1 : Int)) := KG.out.1.cell 3
    have x4 : wc.cell? ⟨g, 4, none⟩ = some (.int .i64 (c1 : Int)) := KG.out.1.cell 4
    have y0 : wc.cell? ⟨u1.heap.size, 0, none⟩ = some (.string (bsL s1)) := KG.out.2.cell 0
    have y1 : wc.cell? ⟨u1.heap.size, 1, none⟩ = some (.string (bsL d1)) := KG.out.2.cell 1
    have y2 : wc.cell? ⟨u1.heap.size, 2, none⟩ = some (.int .i64 p1) := KG.out.2.cell 2
    have y3 : wc.cell? ⟨u1.heap.size, 3, none⟩ = some (.int .i64 (a1 : Int)) := KG.out.2.cell 3
    have y4 : wc.cell? ⟨u1.heap.size, 4, none⟩ = some (.int .i64 (c1 : Int)) := KG.out.2.cell 4
    go_wp2_with fail
    refine (fl_awake _).mono ?_
    rintro e u9 ⟨rfl, b9⟩
    go_wp2_with fail
    go_ret
    exact ⟨rfl, bel_trans BC.out b9⟩

/-! ### The row -/
theorem laidOut : laidOutB Try.prog = true := by kernel_rfl
set_option maxRecDepth 100000 in
theorem lifted (os : Os) (started : os.Started) (H : Type) (enc : TypeId × Value → H) :
    ReturnsInHanded {} Try.checked os 8 .any (Rows.flowTagsSpec.pre6 enc Try.prog Try.f8 Rows.flowTagsRow.domain false) (Rows.flowTagsSpec.post enc Try.prog Try.f8 false true false false) := by
  refine returnsInHanded_of_change (C := Try.checked) own started (by kernel_rfl) Try.func8
    (ChangeSpec.witness6 (enc := enc) (C := Try.checked) false ⟨#[], #[.string ⟨#[]⟩, .int .u16 0, .string ⟨#[]⟩], []⟩ 8 (by kernel_rfl) (by kernel_rfl) (by kernel_rfl) (by kernel_rfl)) ?_
  intro W base args ds gs before hval0 hW hcnd _
  have hval : ∀ (j : Nat) t v, Try.f8.params[j]? = some t → args[j]? = some v → Value.okWide Try.prog W .any base t v := hval0
  have hW' := hW
  obtain ⟨p, q, hA0, hV, rfl, hfz, hnd⟩ := hW
  have hA : DataW.TrodAll enc Try.prog W 0 (fun _ => true) true Try.f8.params.toList args.toList ds p := hA0
  rw [Try.params8] at hA hval
  obtain ⟨v0, vs0, d0, ds0, p0, q0, hargs, rfl, rfl, h0, r0⟩ := trodAll_cons hA
  obtain ⟨v1, vs1, d1, ds1, p1, q1, rfl, rfl, rfl, h1, r1⟩ := trodAll_cons r0
  obtain ⟨v2, vs2, d2, ds2, p2, q2, rfl, rfl, rfl, h2, r2⟩ := trodAll_cons r1
  obtain ⟨rfl, rfl, rfl⟩ := trodAll_nil r2
  obtain rfl : args = #[v0, v1, v2] := by cases args; simp_all
  obtain ⟨rfl, rfl⟩ := trodVars_none hV
  obtain ⟨a0, rfl, rfl, rfl, w0⟩ := open_string Try.underlying9 (hval 0 9 v0 rfl rfl) h0
  obtain ⟨a1, rfl, rfl, rfl, w1⟩ := open_int Try.underlying47 (hval 1 47 v1 rfl rfl) h1
  obtain ⟨a2, rfl, rfl, rfl, w2⟩ := open_string Try.underlying9 (hval 2 9 v2 rfl rfl) h2
  clear hA0 hval0
  refine (walk a0 a1 a2 W w0 w1 w2).mono fun e W' ⟨he, bel⟩ => ?_
  subst he
  exact ⟨_, rfl, _, _, _, [], _, [], hW', trodAll_mk1 (shut_bool Try.underlying4 _), (trodAll_cons_mk (shut_string Try.underlying9 w0) (trodAll_cons_mk (shut_int Try.underlying47 w1) (trodAll_cons_mk (shut_string Try.underlying9 w2) trodAll_mk0))), rfl, bel.frame _, fun h => by cases h⟩

theorem over : Rows.flowTagsRow.holds Try.pinned (OpenSpec.ofChange Rows.flowTagsSpec) :=
  OpenClaim.holds_of_wide 8 Try.f8 rfl rfl rfl rfl rfl rfl rfl ⟨rfl, rfl, rfl, rfl, rfl⟩ rfl rfl rfl rfl rfl (by kernel_rfl) Try.func8 (by kernel_rfl)
    (of_decide_eq_true (by kernel_rfl)) (by unfold Func.isWrapper; first | (rw [if_pos (by decide +kernel)]; kernel_rfl) | (rw [if_neg (by decide +kernel)]; exact ⟨rfl, rfl⟩))
    (fun os started H enc _ => lifted os started H enc)

theorem proved : Rows.FlowTagsSaid := over
end Go.Proofs.Yticopigpgaomjaa.flowTags
namespace Go.Proofs.Yticopigpgaomjaa
theorem flowTags_holds : Rows.FlowTagsSaid := flowTags.proved
#print axioms flowTags_holds
end Go.Proofs.Yticopigpgaomjaa
