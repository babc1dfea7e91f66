
/-
  The document's words, Sum and Cell of layer 2: what they answer.
-/
import Derived.Test.YtihealembikkiaaHashMore
namespace Go.Proofs.Ytihealembikkiaa.L2
open Go.RowKit Fm Bl Oc Go.Deep
set_option linter.unusedVariables false
set_option maxRecDepth 20000

theorem info22 : ∃ i, Try.prog.info? 22 = some i ∧ i.zero = some (.int .u64 0) ∧ i.size = 1 ∧ i.bytes = 8 := by
  have e : (Try.prog.info? 22).map (fun i => (i.zero, i.size, i.bytes)) = some (some (.int .u64 0), 1, 8) := by kernel_rfl
  obtain ⟨i, hi, hzz⟩ := Option.map_eq_some_iff.1 e
  simp only [Prod.mk.injEq] at hzz
  exact ⟨i, hi, hzz⟩
theorem one_u64 (n : Int) : ∀ u ∈ [Value.int .u64 n], u.oneCell' = true := fun u hu => by
  rw [List.mem_singleton.1 hu]; rfl
def wcells (s : ByteArray) (k : Nat) : List Value := (List.range k).map fun j => .int .u64 (wordF s (4 * j))
theorem wcells_succ (s : ByteArray) (k : Nat) : wcells s k ++ [.int .u64 (wordF s (4 * k))] = wcells s (k + 1) := by simp [wcells, List.range_succ]
/-- Words that the call makes. -/
structure WGrow (w wr : World) (v : Value) (k : Nat) (s : ByteArray) : Prop where
  own : wr.ownsRow w.heap.size 22 1 v k (wcells s k)
  since : Below w.heap.size w wr
/-- Words that can be read. -/
def WordsAt (w : World) (v : Value) (K : Nat) (s : ByteArray) : Prop :=
  ∃ (A : Option Addr) (cap b : Nat), v = .slice A K cap ∧ K ≤ cap ∧ ∀ i, i < K → A = some ⟨b, 0, none⟩ ∧ w.cell? ⟨b, i, none⟩ = some (.int .u64 (wordF s (4 * i)))
theorem WGrow.at {w wr : World} {v : Value} {k : Nat} {s : ByteArray} (h : WGrow w wr v k s) : WordsAt wr v k s := by
  have o := h.own
  rcases o.2 with ⟨rfl, rfl⟩ | ⟨g, cap, cur, rfl, _, hg, hn, _, _, hx⟩
  · exact ⟨_, 0, 0, rfl, Nat.le_refl _, fun i hi => by omega⟩
  · refine ⟨_, cap, g, rfl, hn, fun c hc => ⟨rfl, ?_⟩⟩
    have e := o.cellAt (j := c) (by omega)
    rw [e]
    simp [wcells, hc]
/-- The bytes of a key, filled up. -/
theorem at_pad (l : List UInt8) (j i : Nat) : atL (l ++ List.replicate j 0) i = byteN (bsL l) i := by
  unfold byteN
  by_cases h : i < l.length
  · rw [dif_pos (by rw [bsL_size]; exact h)]
    unfold atL
    simp only [List.getElem?_append_left h, List.getElem?_eq_getElem h]
    rfl
  · rw [dif_neg (by rw [bsL_size]; exact h)]
    by_cases h2 : i < l.length + j
    · unfold atL
      simp [List.getElem?_append_right (show l.length ≤ i by omega)]
      rw [List.getElem?_replicate]
      split <;> rfl
    · exact atL_end _ _ (by simp; omega)
theorem conv_nought (w : World) : (convert 152 9 (.slice (some ⟨w.heap.size, 0, none⟩) 1 1)).run Try.prog (w.alloc (.cells #[.int .u8 0] 5)) = .ok (.string (bsL [0])) (w.alloc (.cells #[.int .u8 0] 5)) := by
  refine run_convert_bytes_back (P := Try.prog) _ 152 9 5 ⟨w.heap.size, 0, none⟩ 1 [0] Try.underlying152 Try.underlying5 Try.underlying9 (fun j hj => ?_)
  rw [Addr.add_lit, Nat.zero_add, (Blk.new w 5 #[.int .u8 0]).cell j]
  have e : j = 0 := by simpa using hj
  subst e
  rfl
def GaveWords (w : World) (s : ByteArray) (e : Ending) (w' : World) : Prop := ∃ v, e = .returned v ∧ WordsAt w' v (wordsN s) s ∧ Below w.heap.size w w'
set_option maxRecDepth 8000 in
set_option maxHeartbeats 3200000 in
theorem words_any (l : List UInt8) (w : World) (hl : l.length ≤ 100000) :
    Calls Try.prog 98 #[.string (bsL l)] w (GaveWords w (bsL l)) := by
  obtain ⟨i22, hi, hz, hs, hb⟩ := info22
  have HI : Hid (Try.prog.info? 22 = some i22 ∧ i22.zero = some (.int .u64 0) ∧ i22.size = 1 ∧ i22.bytes = 8) := ⟨hi, hz, hs, hb⟩
  clear hi hz hs hb
  go_enter Try.func98, Try.ntmps98
  go_wp2_with fail
  go_loopg [0] 4 (fun g x wr => ∃ (j : Nat) (p : List UInt8), (g = 4 - j ∧ j ≤ (4 - l.length % 4) % 4 ∧ p = l ++ List.replicate j 0 ∧ Below w.heap.size w wr) ∧ x = .string (bsL p))
  case atStart => exact ⟨0, l, ⟨rfl, by omega, by simp, Below.refl _ _⟩, rfl⟩
  case round =>
    obtain ⟨j, p, ⟨hg, hj, hp, hB⟩, rfl⟩ := hrel
    have HP : Hid (p = l ++ List.replicate j 0) := hp
    have hpl : p.length = l.length + j := by rw [hp]; simp
    have HG : Hid (gk = 4 - j ∧ p.length = l.length + j) := ⟨hg, hpl⟩
    have HB : Hid (Below w.heap.size w wr) := hB
    have p1 : p.length ≤ 100004 := by omega
    clear hg hp hB
    by_cases hz : p.length % 4 = 0
    rotate_left
    · have q : ((p.length : Int) % 4 == 0) = false := by simp; omega
      have cv := conv_nought wr
      have j1 : j + 1 ≤ (4 - l.length % 4) % 4 := by omega
      clear hz hpl
      go_wp2_with fail
      go_roundg (4 - (j + 1))
      case measure => have := HG.out.1; omega
      case rel => exact ⟨j + 1, _, ⟨rfl, j1, by rw [HP.out, List.append_assoc, ← List.replicate_succ'], HB.out.alloc HB.out.size _⟩, rfl⟩
    · have q : ((p.length : Int) % 4 != 0) = false := by simp; omega
      have HQ : Hid (p.length = 4 * wordsN (bsL l)) := by
        show _ = _
        unfold wordsN
        rw [bsL_size]
        omega
      clear hz hpl
      obtain ⟨s, es⟩ : ∃ s, s = bsL l := ⟨_, rfl⟩
      have HS : Hid (s = bsL l) := es
      rw [← es] at HQ ⊢
      clear es
      go_wp2_with fail
      go_loopg [3, 4] (wordsN s) (fun g x y wi => ∃ (k T : Nat) (ao : Option Addr) (cv : Nat), (g = wordsN s - k ∧ T = 4 * k ∧ k ≤ wordsN s ∧ WGrow w wi (.slice ao k cv) k s) ∧ x = .slice ao k cv ∧ y = .int .i64 (T : Int))
      case atStart => exact ⟨0, 0, none, 0, ⟨rfl, rfl, by omega, ⟨World.ownsRow_nil _ _ _ _, HB.out⟩⟩, rfl, rfl⟩
      case round =>
        clear HB
        obtain ⟨k, T, ao, cv, ⟨hg, hT, hk, hG⟩, rfl, rfl⟩ := hrel
        have HK : Hid (gk = wordsN s - k ∧ T = 4 * k ∧ WGrow w wr (.slice ao k cv) k s) := ⟨hg, hT, hG⟩
        clear hg hG
        by_cases hz : k < wordsN s
        rotate_left
        · have e : k = wordsN s := by omega
          have HE : Hid (k = wordsN s) := e
          have c0 : ¬ (T : Int) < (p.length : Int) := by have := HQ.out; omega
          clear e hz hk hT
          go_wp2_with fail
          go_ret
          obtain ⟨_, _, g⟩ := HK.out
          refine ⟨_, rfl, ?_, g.since⟩
          have a := g.at
          rw [← HS.out, ← HE.out]
          exact a
        have n3 : T + 3 < p.length := by have := HQ.out; omega
        have n0 : T < p.length := by omega
        obtain ⟨T1, h1⟩ : ∃ X, X = T + 1 := ⟨_, rfl⟩
        obtain ⟨T2, h2⟩ : ∃ X, X = T + 2 := ⟨_, rfl⟩
        obtain ⟨T3, h3⟩ : ∃ X, X = T + 3 := ⟨_, rfl⟩
        have n1 : T1 < p.length := by omega
        have n2 : T2 < p.length := by omega
        have n3' : T3 < p.length := by omega
        have l0 : (T : Int) < p.length := by omega
        have l1 : (T1 : Int) < p.length := by omega
        have l2 : (T2 : Int) < p.length := by omega
        have l3 : (T3 : Int) < p.length := by omega
        have r1 : (T : Int) + 1 = (T1 : Int) := by omega
        have r2 : (T : Int) + 2 = (T2 : Int) := by omega
        have r3 : (T : Int) + 3 = (T3 : Int) := by omega
        have kk : k ≤ 25001 := by have := HQ.out; omega
        obtain ⟨A0, e0⟩ : ∃ A, atL p T = A := ⟨_, rfl⟩
        obtain ⟨A1, e1⟩ : ∃ A, atL p T1 = A := ⟨_, rfl⟩
        obtain ⟨A2, e2⟩ : ∃ A, atL p T2 = A := ⟨_, rfl⟩
        obtain ⟨A3, e3⟩ : ∃ A, atL p T3 = A := ⟨_, rfl⟩
        have b0 : A0 < 256 := by rw [← e0]; exact atL_lt _ _
        have b1 : A1 < 256 := by rw [← e1]; exact atL_lt _ _
        have b2 : A2 < 256 := by rw [← e2]; exact atL_lt _ _
        have b3 : A3 < 256 := by rw [← e3]; exact atL_lt _ _
        obtain ⟨V, hV⟩ : ∃ V, V = A0 * 16777216 + A1 * 65536 + A2 * 256 + A3 := ⟨_, rfl⟩
        have HV : Hid ((V : Int) = wordF s (4 * k)) := by
          show _ = _
          have hT' := HK.out.2.1
          rw [HP.out, at_pad] at e0 e1 e2 e3
          rw [hV, ← e0, ← e1, ← e2, ← e3, h1, h2, h3, hT', HS.out]
          unfold wordF
          simp only [wpart, Nat.add_zero]
          omega
        have y0 : IntKind.u64.wrap (A0 : Int) = (A0 : Int) := by rw [IntKind.wrap_u64]; omega
        have y1 : IntKind.u64.wrap (A1 : Int) = (A1 : Int) := by rw [IntKind.wrap_u64]; omega
        have y2 : IntKind.u64.wrap (A2 : Int) = (A2 : Int) := by rw [IntKind.wrap_u64]; omega
        have y3 : IntKind.u64.wrap (A3 : Int) = (A3 : Int) := by rw [IntKind.wrap_u64]; omega
        have t1 : IntKind.i64.wrap (T1 : Int) = (T1 : Int) := by rw [IntKind.wrap_i64]; omega
        have t2 : IntKind.i64.wrap (T2 : Int) = (T2 : Int) := by rw [IntKind.wrap_i64]; omega
        have t3 : IntKind.i64.wrap (T3 : Int) = (T3 : Int) := by rw [IntKind.wrap_i64]; omega
        obtain ⟨M0, m0⟩ : ∃ M : Nat, M = A0 * 16777216 := ⟨_, rfl⟩
        obtain ⟨M1, m1⟩ : ∃ M : Nat, M = A1 * 65536 := ⟨_, rfl⟩
        obtain ⟨M2, m2⟩ : ∃ M : Nat, M = A2 * 256 := ⟨_, rfl⟩
        obtain ⟨M3, m3⟩ : ∃ M : Nat, M = M0 + M1 := ⟨_, rfl⟩
        obtain ⟨M4, m4⟩ : ∃ M : Nat, M = M3 + M2 := ⟨_, rfl⟩
        have x0 : (A0 : Int) * 16777216 = (M0 : Int) := by omega
        have x1 : (A1 : Int) * 65536 = (M1 : Int) := by omega
        have x2 : (A2 : Int) * 256 = (M2 : Int) := by omega
        have x3 : (M0 : Int) + (M1 : Int) = (M3 : Int) := by omega
        have x4 : (M3 : Int) + (M2 : Int) = (M4 : Int) := by omega
        have x5 : (M4 : Int) + (A3 : Int) = (V : Int) := by omega
        have w0 : IntKind.u64.wrap (M0 : Int) = (M0 : Int) := by rw [IntKind.wrap_u64]; omega
        have w1 : IntKind.u64.wrap (M1 : Int) = (M1 : Int) := by rw [IntKind.wrap_u64]; omega
        have w2 : IntKind.u64.wrap (M2 : Int) = (M2 : Int) := by rw [IntKind.wrap_u64]; omega
        have w3 : IntKind.u64.wrap (M3 : Int) = (M3 : Int) := by rw [IntKind.wrap_u64]; omega
        have w4 : IntKind.u64.wrap (M4 : Int) = (M4 : Int) := by rw [IntKind.wrap_u64]; omega
        have w5 : IntKind.u64.wrap (V : Int) = (V : Int) := by rw [IntKind.wrap_u64]; omega
        clear m0 m1 m2 m3 m4 hV hT hk h1 h2 h3
        go_wp2_with fail
        refine wp_region_noPanic ?_
        have GD : Hid (WGrow w wr.drew (.slice ao k cv) k s) := ⟨HK.out.2.2.own, HK.out.2.2.since.drew⟩
        refine wp_region_held_drew (S := fun _ => True) (by kernel_rfl) trivial (fun hHeld => ?_)
        clear hHeld
        generalize wr.drew = v0 at GD ⊢
        refine wpAnyH_take (i := 0) (v := ?_) rfl (by kernel_rfl) (by kernel_rfl) (by kernel_rfl) (fun _ _ _ h => h) (Or.inl ⟨by rfl, ?_⟩) trivial ?_
        rotate_left
        · intro w hSw; go_simp; first | done | with_reducible rfl
        simp only [List.getElem_toArray, List.getElem_cons_zero, Act.put, List.setIfInBounds_toArray, List.set_cons_zero, List.set_cons_succ]
        refine wpAnyH_take (i := 1) (v := ?_) rfl (by kernel_rfl) (by kernel_rfl) (by kernel_rfl) (fun _ _ _ h => h) (Or.inl ⟨by rfl, ?_⟩) trivial ?_
        rotate_left
        · intro w hSw; go_simp; first | done | with_reducible rfl
        simp only [List.getElem_toArray, List.getElem_cons_zero, List.getElem_cons_succ, Act.put, List.setIfInBounds_toArray, List.set_cons_zero, List.set_cons_succ]
        refine wpAnyH_take (i := 2) (v := ?_) rfl (by kernel_rfl) (by kernel_rfl) (by kernel_rfl) (fun _ _ _ h => h) (Or.inl ⟨by rfl, ?_⟩) trivial ?_
        rotate_left
        · intro w hSw; go_simp; first | done | with_reducible rfl
        simp only [List.getElem_toArray, List.getElem_cons_zero, List.getElem_cons_succ, Act.put, List.setIfInBounds_toArray, List.set_cons_zero, List.set_cons_succ]
        refine wpAnyH_take (i := 3) (v := ?_) rfl (by kernel_rfl) (by kernel_rfl) (by kernel_rfl) (fun _ _ _ h => h) (Or.inl ⟨by rfl, ?_⟩) trivial ?_
        rotate_left
        · intro w hSw; go_simp; first | done | with_reducible rfl
        simp only [List.getElem_toArray, List.getElem_cons_zero, List.getElem_cons_succ, Act.put, List.setIfInBounds_toArray, List.set_cons_zero, List.set_cons_succ]
        refine wpAnyH_take (i := 4) (v := ?_) rfl (by kernel_rfl) (by kernel_rfl) (by kernel_rfl) (fun _ _ _ h => h) (Or.inl ⟨by rfl, ?_⟩) trivial ?_
        rotate_left
        · intro w hSw; go_simp; first | done | with_reducible rfl
        simp only [List.getElem_toArray, List.getElem_cons_zero, List.getElem_cons_succ, Act.put, List.setIfInBounds_toArray, List.set_cons_zero, List.set_cons_succ]
        refine wpAnyH_take (i := 5) (v := ?_) rfl (by kernel_rfl) (by kernel_rfl) (by kernel_rfl) (fun _ _ _ h => h) (Or.inl ⟨by rfl, ?_⟩) trivial ?_
        rotate_left
        · intro w hSw; go_simp; first | done | with_reducible rfl
        simp only [List.getElem_toArray, List.getElem_cons_zero, List.getElem_cons_succ, Act.put, List.setIfInBounds_toArray, List.set_cons_zero, List.set_cons_succ]
        refine wpAnyH_take (i := 6) (v := ?_) rfl (by kernel_rfl) (by kernel_rfl) (by kernel_rfl) (fun _ _ _ h => h) (Or.inl ⟨by rfl, ?_⟩) trivial ?_
        rotate_left
        · intro w hSw; go_simp; first | done | with_reducible rfl
        simp only [List.getElem_toArray, List.getElem_cons_zero, List.getElem_cons_succ, Act.put, List.setIfInBounds_toArray, List.set_cons_zero, List.set_cons_succ]
        refine wpAnyH_take (i := 7) (v := ?_) rfl (by kernel_rfl) (by kernel_rfl) (by kernel_rfl) (fun _ _ _ h => h) (Or.inl ⟨by rfl, ?_⟩) trivial ?_
        rotate_left
        · intro w hSw; go_simp; first | done | with_reducible rfl
        simp only [List.getElem_toArray, List.getElem_cons_zero, List.getElem_cons_succ, Act.put, List.setIfInBounds_toArray, List.set_cons_zero, List.set_cons_succ]
        refine wpAnyH_take (i := 8) (v := ?_) rfl (by kernel_rfl) (by kernel_rfl) (by kernel_rfl) (fun _ _ _ h => h) (Or.inl ⟨by rfl, ?_⟩) trivial ?_
        rotate_left
        · intro w hSw; go_simp; first | done | with_reducible rfl
        simp only [List.getElem_toArray, List.getElem_cons_zero, List.getElem_cons_succ, Act.put, List.setIfInBounds_toArray, List.set_cons_zero, List.set_cons_succ]
        refine wpAnyH_take (i := 9) (v := ?_) rfl (by kernel_rfl) (by kernel_rfl) (by kernel_rfl) (fun _ _ _ h => h) (Or.inl ⟨by rfl, ?_⟩) trivial ?_
        rotate_left
        · intro w hSw; go_simp; first | done | with_reducible rfl
        simp only [List.getElem_toArray, List.getElem_cons_zero, List.getElem_cons_succ, Act.put, List.setIfInBounds_toArray, List.set_cons_zero, List.set_cons_succ]
        refine wpAnyH_take (i := 10) (v := ?_) rfl (by kernel_rfl) (by kernel_rfl) (by kernel_rfl) (fun _ _ _ h => h) (Or.inl ⟨by rfl, ?_⟩) trivial ?_
        rotate_left
        · intro w hSw; go_simp; first | done | with_reducible rfl
        simp only [List.getElem_toArray, List.getElem_cons_zero, List.getElem_cons_succ, Act.put, List.setIfInBounds_toArray, List.set_cons_zero, List.set_cons_succ]
        refine wpAnyH_take (i := 11) (v := ?_) rfl (by kernel_rfl) (by kernel_rfl) (by kernel_rfl) (fun _ _ _ h => h) (Or.inl ⟨by rfl, ?_⟩) trivial ?_
        rotate_left
        · intro w hSw; go_simp; first | done | with_reducible rfl
        simp only [List.getElem_toArray, List.getElem_cons_zero, List.getElem_cons_succ, Act.put, List.setIfInBounds_toArray, List.set_cons_zero, List.set_cons_succ]
        refine wpAnyH_take (i := 12) (v := ?_) rfl (by kernel_rfl) (by kernel_rfl) (by kernel_rfl) (fun _ _ _ h => h) (Or.inl ⟨by rfl, ?_⟩) trivial ?_
        rotate_left
        · intro w hSw; go_simp; first | done | with_reducible rfl
        simp only [List.getElem_toArray, List.getElem_cons_zero, List.getElem_cons_succ, Act.put, List.setIfInBounds_toArray, List.set_cons_zero, List.set_cons_succ]
        refine wpAnyH_take (i := 13) (v := ?_) rfl (by kernel_rfl) (by kernel_rfl) (by kernel_rfl) (fun _ _ _ h => h) (Or.inl ⟨by rfl, ?_⟩) trivial ?_
        rotate_left
        · intro w hSw; go_simp; first | done | with_reducible rfl
        simp only [List.getElem_toArray, List.getElem_cons_zero, List.getElem_cons_succ, Act.put, List.setIfInBounds_toArray, List.set_cons_zero, List.set_cons_succ]
        refine wpAnyH_take (i := 14) (v := ?_) rfl (by kernel_rfl) (by kernel_rfl) (by kernel_rfl) (fun _ _ _ h => h) (Or.inl ⟨by rfl, ?_⟩) trivial ?_
        rotate_left
        · intro w hSw; go_simp; first | done | with_reducible rfl
        simp only [List.getElem_toArray, List.getElem_cons_zero, List.getElem_cons_succ, Act.put, List.setIfInBounds_toArray, List.set_cons_zero, List.set_cons_succ]
        refine wpAnyH_take (i := 15) (v := ?_) rfl (by kernel_rfl) (by kernel_rfl) (by kernel_rfl) (fun _ _ _ h => h) (Or.inl ⟨by rfl, ?_⟩) trivial ?_
        rotate_left
        · intro w hSw; go_simp; first | done | with_reducible rfl
        simp only [List.getElem_toArray, List.getElem_cons_zero, List.getElem_cons_succ, Act.put, List.setIfInBounds_toArray, List.set_cons_zero, List.set_cons_succ]
        refine wpAnyH_take (i := 16) (v := ?_) rfl (by kernel_rfl) (by kernel_rfl) (by kernel_rfl) (fun _ _ _ h => h) (Or.inl ⟨by rfl, ?_⟩) trivial ?_
        rotate_left
        · intro w hSw; go_simp; first | done | with_reducible rfl
        simp only [List.getElem_toArray, List.getElem_cons_zero, List.getElem_cons_succ, Act.put, List.setIfInBounds_toArray, List.set_cons_zero, List.set_cons_succ]
        refine wpAnyH_take (i := 17) (v := ?_) rfl (by kernel_rfl) (by kernel_rfl) (by kernel_rfl) (fun _ _ _ h => h) (Or.inl ⟨by rfl, ?_⟩) trivial ?_
        rotate_left
        · intro w hSw; go_simp; first | done | with_reducible rfl
        simp only [List.getElem_toArray, List.getElem_cons_zero, List.getElem_cons_succ, Act.put, List.setIfInBounds_toArray, List.set_cons_zero, List.set_cons_succ]
        refine wpAnyH_take (i := 18) (v := ?_) rfl (by kernel_rfl) (by kernel_rfl) (by kernel_rfl) (fun _ _ _ h => h) (Or.inl ⟨by rfl, ?_⟩) trivial ?_
        rotate_left
        · intro w hSw; go_simp; first | done | with_reducible rfl
        simp only [List.getElem_toArray, List.getElem_cons_zero, List.getElem_cons_succ, Act.put, List.setIfInBounds_toArray, List.set_cons_zero, List.set_cons_succ]
        refine wpAnyH_take (i := 19) (v := ?_) rfl (by kernel_rfl) (by kernel_rfl) (by kernel_rfl) (fun _ _ _ h => h) (Or.inl ⟨by rfl, ?_⟩) trivial ?_
        rotate_left
        · intro w hSw; go_simp; first | done | with_reducible rfl
        simp only [List.getElem_toArray, List.getElem_cons_zero, List.getElem_cons_succ, Act.put, List.setIfInBounds_toArray, List.set_cons_zero, List.set_cons_succ]
        refine wpAnyH_take (i := 20) (v := ?_) rfl (by kernel_rfl) (by kernel_rfl) (by kernel_rfl) (fun _ _ _ h => h) (Or.inl ⟨by rfl, ?_⟩) trivial ?_
        rotate_left
        · intro w hSw; go_simp; first | done | with_reducible rfl
        simp only [List.getElem_toArray, List.getElem_cons_zero, List.getElem_cons_succ, Act.put, List.setIfInBounds_toArray, List.set_cons_zero, List.set_cons_succ]
        refine wpAnyH_take (i := 21) (v := ?_) rfl (by kernel_rfl) (by kernel_rfl) (by kernel_rfl) (fun _ _ _ h => h) (Or.inl ⟨by rfl, ?_⟩) trivial ?_
        rotate_left
        · intro w hSw; go_simp; first | done | with_reducible rfl
        simp only [List.getElem_toArray, List.getElem_cons_zero, List.getElem_cons_succ, Act.put, List.setIfInBounds_toArray, List.set_cons_zero, List.set_cons_succ]
        refine wpAnyH_take (i := 22) (v := ?_) rfl (by kernel_rfl) (by kernel_rfl) (by kernel_rfl) (fun _ _ _ h => h) (Or.inl ⟨by rfl, ?_⟩) trivial ?_
        rotate_left
        · intro w hSw; go_simp; first | done | with_reducible rfl
        simp only [List.getElem_toArray, List.getElem_cons_zero, List.getElem_cons_succ, Act.put, List.setIfInBounds_toArray, List.set_cons_zero, List.set_cons_succ]
        refine wpAnyH_take (i := 23) (v := ?_) rfl (by kernel_rfl) (by kernel_rfl) (by kernel_rfl) (fun _ _ _ h => h) (Or.inl ⟨by rfl, ?_⟩) trivial ?_
        rotate_left
        · intro w hSw; go_simp; first | done | with_reducible rfl
        simp only [List.getElem_toArray, List.getElem_cons_zero, List.getElem_cons_succ, Act.put, List.setIfInBounds_toArray, List.set_cons_zero, List.set_cons_succ]
        refine wpAnyH_take (i := 24) (v := ?_) rfl (by kernel_rfl) (by kernel_rfl) (by kernel_rfl) (fun _ _ _ h => h) (Or.inl ⟨by rfl, ?_⟩) trivial ?_
        rotate_left
        · intro w hSw; go_simp; first | done | with_reducible rfl
        simp only [List.getElem_toArray, List.getElem_cons_zero, List.getElem_cons_succ, Act.put, List.setIfInBounds_toArray, List.set_cons_zero, List.set_cons_succ]
        refine wpAnyH_take (i := 25) (v := ?_) rfl (by kernel_rfl) (by kernel_rfl) (by kernel_rfl) (fun _ _ _ h => h) (Or.inl ⟨by rfl, ?_⟩) trivial ?_
        rotate_left
        · intro w hSw; go_simp; first | done | with_reducible rfl
        simp only [List.getElem_toArray, List.getElem_cons_zero, List.getElem_cons_succ, Act.put, List.setIfInBounds_toArray, List.set_cons_zero, List.set_cons_succ]
        refine wpAnyH_ready (rs := [26]) (by kernel_rfl) (by simp) ?_
        refine AllReadyH.cons rfl (fun K hK => ?_) ?_
        · have nb := Blk.new v0 22 #[.int .u64 (V : Int)]
          have sz := GD.out.since.size
          have ow := GD.out.own.alloc (.cells #[.int .u64 (V : Int)] 22)
          have bw := GD.out.since.alloc sz (.cells #[.int .u64 (V : Int)] 22)
          have lt1 : v0.heap.size < (v0.alloc (.cells #[.int .u64 (V : Int)] 22)).heap.size := by simp
          go_simp
          generalize v0.alloc (.cells #[.int .u64 (V : Int)] 22) = v1 at nb ow bw lt1 ⊢
          generalize v0.heap.size = g1 at nb sz lt1 ⊢
          have NB : Hid (Blk v1 g1 22 #[.int .u64 (V : Int)]) := nb
          have OW : Hid (v1.ownsRow w.heap.size 22 1 (.slice ao k cv) k (wcells s k)) := ow
          have BW : Hid (Below w.heap.size w v1) := bw
          clear nb ow bw
          refine hK.out _ _ trivial (fun hHeld => ?_)
          clear hK K
          clear hHeld
          refine wpAnyH_ready (rs := [27]) (by kernel_rfl) (by simp) ?_
          refine AllReadyH.cons rfl (fun K hK => ?_) ?_
          · refine step_append_lies _ rfl (.tmp 19) (.tmp 45) 145 rfl w.heap.size 22 i22 (.int .u64 0) 1 8 Try.underlying145 HI.out.1 HI.out.2.1 HI.out.2.2.1 HI.out.2.2.2 rfl (by omega) (.slice ao k cv) k (wcells s k) (by simp [Act.eval]) OW.out ⟨g1, 0, none⟩ 1 1 [.int .u64 (V : Int)] (by simp [Act.eval]) rfl (World.news_of_block (cs := #[.int .u64 (V : Int)]) NB.out) (one_u64 _) (by omega) (by unfold maxLen; omega) (by omega) (by omega) v1.heap.size rfl ?_
            intro g2 cap2 v2 hown hgrow hat hlt2
            have GN : Hid (WGrow w v2 (.slice (some ⟨g2, 0, none⟩) (k + 1) cap2) (k + 1) s) := ⟨by rw [← wcells_succ, ← HV.out]; exact hown, BW.out.grown hgrow (by omega) fun q e => (OW.out.lt q e).1⟩
            clear hown hgrow hat hlt2
            refine hK.out _ _ trivial (fun hHeld => ?_)
            clear hK K
            clear hHeld
            refine wpAnyH_ready (rs := [28]) (by kernel_rfl) (by simp) ?_
            refine AllReadyH.cons rfl (fun K hK => ?_) ?_
            · go_simp
              refine hK.out _ _ trivial (fun hHeld => ?_)
              clear hK K
              clear hHeld
              refine wpAnyH_done (by kernel_rfl) ?_ _
              refine NoPanic.normal ?_
              go_wp2_with fail
              go_roundg (wordsN s - (k + 1))
              case measure => have := HK.out.1; omega
              case rel => exact ⟨k + 1, T + 4, _, _, ⟨rfl, by have := HK.out.2.1; omega, by omega, GN.out⟩, rfl, by go_num⟩
            exact AllReadyH.nil
          exact AllReadyH.nil
        exact AllReadyH.nil
theorem run_ref (f n z : Int) : addF (mulF f n) (addF z 1) = addF (mulF n f) (z + 1) := by
  rw [mul_comm_F f n]
  unfold addF
  omega
theorem WordsAt.drewN {w : World} {v : Value} {K : Nat} {s : ByteArray} (h : WordsAt w v K s) (n : Nat) : WordsAt (w.drewN n) v K s := h
set_option maxHeartbeats 1600000 in
theorem rsum_any (a : Int) (s : ByteArray) (w : World) (ha : U a) (hs : s.size ≤ 100000) :
    Calls Try.prog 75 #[.int .u64 a, .string s] w fun e w' => e = .returned (.int .u64 (sumF a s)) ∧ Below w.heap.size w w' := by
  obtain ⟨l, rfl⟩ : ∃ l, s = bsL l := ⟨_, (bsL_of s)⟩
  rw [bsL_size] at hs
  have CALL := words_any l
  have HC : Hid (∀ w, Calls Try.prog 98 #[.string (bsL l)] w (GaveWords w (bsL l))) := fun w => words_any l w hs
  clear CALL
  have hz : (bsL l).size = l.length := bsL_size l
  obtain ⟨s, es⟩ : ∃ s, s = bsL l := ⟨_, rfl⟩
  rw [← es] at HC hz ⊢
  clear es
  have HW : Hid (wordsN s ≤ 30000) := by show wordsN s ≤ 30000; unfold wordsN; omega
  have hz1 : s.size ≤ 100000 := by omega
  clear hz hs
  have uf := addF_U a 2
  obtain ⟨F, hF⟩ : ∃ F, F = addF a 2 := ⟨_, rfl⟩
  have HF : Hid (addF a 2 = F) := hF.symm
  rw [← hF] at uf
  clear hF
  have un := oF_U (s.size : Int)
  go_enter Try.func75, Try.ntmps75
  go_wp2_with fail
  refine (radd_any _ _ _ ha ⟨by omega, by omega⟩).mono ?_
  rintro e u1 ⟨rfl, rfl⟩
  rw [HF.out]
  go_wp2_with fail
  refine (rof_any _ _ ⟨by omega, by omega⟩).mono ?_
  rintro e u2 ⟨rfl, rfl⟩
  go_wp2_with fail
  refine (HC.out _).mono ?_
  rintro e u3 ⟨v, rfl, wa, b3⟩
  obtain ⟨A, cap, b, rfl, _, wc⟩ := wa
  obtain ⟨K, hK⟩ : ∃ K, K = wordsN s := ⟨_, rfl⟩
  rw [← hK] at wc ⊢
  have k1 : K ≤ 30000 := by rw [hK]; exact HW.out
  have HKK : Hid (K = wordsN s) := hK
  have WC : Hid (∀ i, i < K → A = some ⟨b, 0, none⟩ ∧ u3.cell? ⟨b, i, none⟩ = some (.int .u64 (wordF s (4 * i)))) := wc
  have B3 : Hid (Below u2.heap.size u2 u3) := b3
  clear hK wc b3
  go_wp2_with fail
  go_loopg [6, 8] K (fun g x y wr => ∃ (k : Nat) (R : Int), (g = K - k ∧ k ≤ K ∧ R = runF F s (oF s.size) k ∧ Keep u3 wr ∧ Below u2.heap.size u2 wr) ∧ x = .int .u64 R ∧ y = .int .i64 (k : Int))
  case atStart => exact ⟨0, _, ⟨rfl, by omega, rfl, Keep.refl _, B3.out⟩, rfl, rfl⟩
  case round =>
    obtain ⟨k, R, ⟨hg, hk, hR, hQ, hB⟩, rfl, rfl⟩ := hrel
    have r0 := (runF_lt F s (oF s.size) (oF_nn _) (oF_lt _) k)
    rw [← hR] at r0
    have uR : U R := ⟨r0.1, by have := r0.2; omega⟩
    have HK : Hid (gk = K - k ∧ R = runF F s (oF s.size) k ∧ Keep u3 wr ∧ Below u2.heap.size u2 wr) := ⟨hg, hR, hQ, hB⟩
    clear hg hR hB r0
    by_cases hz : k < K
    · obtain ⟨rfl, c1⟩ := WC.out k hz
      have c2 := hQ _ _ c1
      clear hQ c1
      obtain ⟨V, hV⟩ : ∃ V, V = wordF s (4 * k) := ⟨_, rfl⟩
      have uV : U V := by rw [hV]; exact ⟨wordF_nn s _, by have := wordF_lt s (4 * k); omega⟩
      rw [← hV] at c2
      have HV : Hid (V = wordF s (4 * k)) := hV
      clear hV
      have b1 : (k : Int) < (K : Int) := by omega
      have uM := mulF_U F R
      have uA := addF_U V 1
      have u1' : U 1 := ⟨by omega, by omega⟩
      go_wp2_with fail
      go_quiet ((first | (go_at_call 65; exact Calls.quiet_of_same (rmul_any F R _ uf uR)) | (go_at_call 66; exact Calls.quiet_of_same (radd_any _ _ _ (by first | with_reducible exact uV | with_reducible exact uM) (by first | with_reducible exact uA | with_reducible exact u1')))))
      go_wp2_with fail
      go_roundg (K - (k + 1))
      case measure => have := HK.out.1; omega
      case rel => exact ⟨k + 1, _, ⟨rfl, by omega, by rw [run_ref, HK.out.2.1, HV.out]; rfl, HK.out.2.2.1, below_drewN HK.out.2.2.2 _⟩, rfl, by go_num⟩
    · have e : k = K := by omega
      have HE : Hid (k = K) := e
      have b1 : ¬ (k : Int) < (K : Int) := by omega
      clear e hQ hz hk
      go_wp2_with fail
      refine (rmul_any _ _ _ uf uR).mono ?_
      rintro e u4 ⟨rfl, rfl⟩
      go_wp2_with fail
      refine (rpow_any 17 _ _ _ (by omega) (mulF_U _ _) ⟨by omega, by omega⟩).mono ?_
      rintro e u5 ⟨rfl, rfl⟩
      go_wp2_with fail
      go_ret
      refine ⟨ret_int ?_, HK.out.2.2.2⟩
      unfold sumF baseF
      rw [HF.out, ← HKK.out, ← HE.out, ← HK.out.2.1, mul_comm_F]
set_option maxHeartbeats 800000 in
theorem rcell_any (a : Int) (s : ByteArray) (n : Nat) (w : World) (ha : U a) (hs : s.size ≤ 100000) (hn : 1 ≤ n) (hn1 : n ≤ 100000) :
    Calls Try.prog 50 #[.int .u64 a, .string s, .int .i64 (n : Int)] w fun e w' => e = .returned (.int .i64 (cellF a s n)) ∧ Below w.heap.size w w' := by
  have h0 := sumF_nn a s
  have h1 := sumF_lt a s
  have S : Hid (cellF a s n = sumF a s % n) := (by unfold cellF; rw [if_neg (by omega)] : cellF a s n = sumF a s % n)
  obtain ⟨q0, q1⟩ := mod_lt_of h0 h1 (show (0 : Int) < n by omega)
  go_enter Try.func50, Try.ntmps50
  go_wp2_with fail
  refine (rsum_any _ _ _ ha hs).mono ?_
  rintro e u1 ⟨rfl, b1⟩
  go_wp2_with fail
  go_ret
  exact ⟨ret_int S.out.symm, b1⟩
end Go.Proofs.Ytihealembikkiaa.L2
