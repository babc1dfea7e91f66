
/-
  Put: what it answers of any frame.
-/
import Derived.Test.YticopigpgaomjaaJoin
import Derived.Deep.RegionLaw
namespace Go.Proofs.Yticopigpgaomjaa.L5
open Go.RowKit Oc Et Go.Deep
set_option linter.unusedVariables false

/-- The parts that Put joins. -/
def parts (F : Fr) : Nat → List (List UInt8)
  | 0 => [F.d, F.s]
  | k + 1 => parts F k ++ [bytesL (F.K k).toNat 2, bytesL (F.V k).toNat 2]
theorem parts_flat (F : Fr) : ∀ k, (parts F k).flatten = F.d ++ F.s ++ tagsL F k
  | 0 => by simp [parts, tagsL]
  | k + 1 => by rw [parts, List.flatten_append, parts_flat F k, tagsL]; simp
theorem all_flat (F : Fr) (b : List UInt8) : (parts F F.n ++ [bytesL F.T.toNat 2, b]).flatten = headL F ++ b := by
  rw [List.flatten_append, parts_flat]; simp [headL]
theorem head_len {F : Fr} (h : RightP F) : (headL F).length = 14 + 4 * F.n := by
  obtain ⟨h1, h2, _⟩ := h
  simp only [headL, List.length_append, h1, h2, tagsL_len, bytesL_len]; omega
theorem infoS' : (Try.prog.info? 9).map (fun i => (i.zero, i.size, i.bytes)) = some (some (.string ⟨#[]⟩), 1, 16) := by kernel_rfl
theorem infoS : ∃ i, Try.prog.info? 9 = some i ∧ i.zero = some (.string ⟨#[]⟩) ∧ i.size = 1 ∧ i.bytes = 16 := by
  obtain ⟨i, hi, hzz⟩ := Option.map_eq_some_iff.1 infoS'
  simp only [Prod.mk.injEq] at hzz
  exact ⟨i, hi, hzz⟩
theorem str_cell (a b : List UInt8) : ∀ u ∈ [Value.string (bsL a), Value.string (bsL b)], u.oneCell' = true := fun u hu => by
  simp at hu
  rcases hu with rfl | rfl <;> rfl
/-- Two strings in a block of their own. -/
theorem owns_two (w : World) (a b : List UInt8) : (w.alloc (.cells #[.string (bsL a), .string (bsL b)] 9)).ownsRow w.heap.size 9 1 (.slice (some ⟨w.heap.size, 0, none⟩) 2 2) 2 (strCells [a, b]) := by
  refine ⟨rfl, Or.inr ⟨w.heap.size, 2, #[.string (bsL a), .string (bsL b)], rfl, Nat.le_refl _, blk_alloc_new w _, Nat.le_refl _, by decide, rfl, rfl⟩⟩
/-- What the loop of Put keeps. -/
structure PutIn (u wr : World) (F : Fr) (v : Value) (k : Nat) : Prop where
  since : Below u.heap.size u wr
  own : wr.ownsRow u.heap.size 9 1 v (2 + 2 * k) (strCells (parts F k))
theorem put_step {u q w1 : World} {d s : List UInt8} {n k M KN VN : Nat} {K V : Nat → Int} {T : Int} {v v' : Value} {b : Obj} (hs : Below u.heap.size u q) (ho : q.ownsRow u.heap.size 9 1 v M (strCells (parts ⟨d, s, n, K, V, T⟩ k))) (hE : K k = KN ∧ V k = VN) (hM : M = 2 + 2 * k)
    (hown : w1.ownsRow u.heap.size 9 1 v' (M + 2) (strCells (parts ⟨d, s, n, K, V, T⟩ k) ++ [.string (bsL (bytesL KN 2)), .string (bsL (bytesL VN 2))])) (hg : (q.alloc b).grownBy w1 v.ownBlock) : PutIn u w1 ⟨d, s, n, K, V, T⟩ v' (k + 1) := by
  refine ⟨(hs.alloc hs.size b).grown hg (by have := hs.size; simp; omega) fun p e => (ho.lt p e).1, ?_⟩
  have e : strCells (parts ⟨d, s, n, K, V, T⟩ k) ++ [.string (bsL (bytesL KN 2)), .string (bsL (bytesL VN 2))] = strCells (parts ⟨d, s, n, K, V, T⟩ (k + 1)) := by
    rw [parts]
    simp only [hE.1, hE.2, Int.toNat_natCast]
    exact strCells_app _ [bytesL KN 2, bytesL VN 2]
  rw [e, show M + 2 = 2 + 2 * (k + 1) by omega] at hown
  exact hown
theorem put_last {u q w1 : World} {F : Fr} {k M : Nat} {v v' : Value} {b : Obj} {x y : List UInt8} (hs : Below u.heap.size u q) (ho : q.ownsRow u.heap.size 9 1 v M (strCells (parts F k)))
    (hown : w1.ownsRow u.heap.size 9 1 v' (M + 2) (strCells (parts F k) ++ [.string (bsL x), .string (bsL y)])) (hg : (q.alloc b).grownBy w1 v.ownBlock) : Below u.heap.size u w1 ∧ w1.ownsRow u.heap.size 9 1 v' (M + 2) (strCells (parts F k ++ [x, y])) := by
  refine ⟨(hs.alloc hs.size b).grown hg (by have := hs.size; simp; omega) fun p e => (ho.lt p e).1, ?_⟩
  rw [← strCells_app]
  exact hown
/-- What Put tells. -/
def Wrote (w : World) (s : List UInt8) (c : Int) (e : Ending) (w' : World) : Prop := e = .returned (.tuple #[.string (bsL s), .int .i64 c]) ∧ Below w.heap.size w w'

set_option maxHeartbeats 1600000 in
theorem eput_no (w : World) (x : Value) (F : Fr) (body : List UInt8) (h : FrameAt w x F) (hn : F.n ≤ 1000000) (hR : ¬ RightP F) : Calls Try.prog 22 #[x, .string (bsL body)] w (Wrote w [] 1) := by
  have HF : Hid (∀ w' : World, Keep w w' → FrameAt w' x F) := fun w' k => h.keep k
  obtain ⟨v, rfl, A, cap, b, o, rfl, h2, h3, h4⟩ := h
  have B1 : Hid (Below w.heap.size w (w.alloc (.cells #[.string (bsL F.d), .string (bsL F.s), .slice A F.n cap, .int .i64 F.T] 40))) := (Below.refl _ _).alloc (Nat.le_refl _) _
  clear h3 h4
  have HR : Hid (¬ RightP F) := hR
  clear hR
  go_enter Try.func22, Try.ntmps22
  go_wp2_with fail
  refine (right_any _ _ F (HF.out _ (keep_of_below B1.out)) hn).mono ?_
  rintro e u1 ⟨B, rfl, hB, b1⟩
  have eB : B = false := by cases B with
    | false => rfl
    | true => exact absurd (hB.1 rfl) HR.out
  subst eB
  clear hB
  go_wp2_with fail
  go_returns
  exact ⟨rfl, bel_trans B1.out b1⟩

set_option maxHeartbeats 800000 in
theorem eput_ok (w : World) (x : Value) (F : Fr) (body : List UInt8) (h : FrameAt w x F) (hR : RightP F) (hb : body.length ≤ 1000000) : Calls Try.prog 22 #[x, .string (bsL body)] w (Wrote w (headL F ++ body) 0) := by
  obtain ⟨d, s, n, K, V, T⟩ := F
  have tT := isN_iff.1 hR.2.2.2.2.1
  simp only at tT
  obtain ⟨TN, rfl⟩ : ∃ TN : Nat, T = TN := ⟨T.toNat, by omega⟩
  have hT2 : TN < 65536 := by omega
  clear tT
  have HF : Hid (∀ w' : World, Keep w w' → FrameAt w' x ⟨d, s, n, K, V, TN⟩) := fun w' k => h.keep k
  obtain ⟨iS, hi, hz, hs, hb'⟩ := infoS
  have HI : Hid (Try.prog.info? 9 = some iS ∧ iS.zero = some (.string ⟨#[]⟩) ∧ iS.size = 1 ∧ iS.bytes = 16) := ⟨hi, hz, hs, hb'⟩
  clear hi hz hs hb'
  obtain ⟨v, rfl, A, cap, b, o, rfl, h2, h3, h4⟩ := h
  simp only at h2 h3 h4
  have n2 : n ≤ 2 := hR.2.2.1
  have HR : Hid (RightP ⟨d, s, n, K, V, TN⟩) := hR
  have B1 : Hid (Below w.heap.size w (w.alloc (.cells #[.string (bsL d), .string (bsL s), .slice A n cap, .int .i64 (TN : Int)] 40))) := (Below.refl _ _).alloc (Nat.le_refl _) _
  have cell : Hid (∀ i, i < n → A = some ⟨b, o, none⟩ ∧ ∃ KN VN : Nat, K i = KN ∧ V i = VN ∧ KN < 65536 ∧ VN < 65536 ∧ w.cell? ⟨b, o + i * 2, none⟩ = some (.int .i64 (KN : Int)) ∧ w.cell? ⟨b, o + i * 2 + 1, none⟩ = some (.int .i64 (VN : Int))) := fun i hi => by
    obtain ⟨c1, c2⟩ := h4 i hi
    have k1 := isK_two (hR.2.2.2.1 i hi).1
    have k2 := isN_iff.1 (hR.2.2.2.1 i hi).2
    simp only at k1 k2
    exact ⟨h3 (by omega), (K i).toNat, (V i).toNat, by omega, by omega, by omega, by omega, by rw [c1]; congr 2; omega, by rw [c2]; congr 2; omega⟩
  clear h3 h4 hR
  go_enter Try.func22, Try.ntmps22
  go_wp2_with fail
  refine (right_any _ _ ⟨d, s, n, K, V, TN⟩ (HF.out _ (keep_of_below B1.out)) (by show n ≤ 1000000; omega)).mono ?_
  rintro e u1 ⟨B, rfl, hB, b1⟩
  have eB : B = true := hB.2 HR.out
  subst eB
  clear hB
  have BX : Hid (Blk u1 w.heap.size 40 #[.string (bsL d), .string (bsL s), .slice A n cap, .int .i64 (TN : Int)]) := (Blk.new w 40 _).below b1 (by simp)
  have x0 : u1.cell? ⟨w.heap.size, 0, none⟩ = some (.string (bsL d)) := BX.out.cell 0
  have x1 : u1.cell? ⟨w.heap.size, 1, none⟩ = some (.string (bsL s)) := BX.out.cell 1
  have x2 : u1.cell? ⟨w.heap.size, 2, none⟩ = some (.slice A n cap) := BX.out.cell 2
  have BS : Hid (Below w.heap.size w u1) := bel_trans B1.out b1
  have xl : w.heap.size < u1.heap.size := BX.out.lt
  have START : Hid (PutIn u1 (u1.alloc (.cells #[.string (bsL d), .string (bsL s)] 9)) ⟨d, s, n, K, V, TN⟩ (.slice (some ⟨u1.heap.size, 0, none⟩) 2 2) 0) := ⟨(Below.refl _ _).alloc (Nat.le_refl _) _, owns_two u1 d s⟩
  clear b1
  go_wp2_with fail
  go_loopg [20, 6] n (fun g i p wr => ∃ (k M bg cv : Nat), (g = n - k ∧ k ≤ n ∧ M = 2 + 2 * k ∧ PutIn u1 wr ⟨d, s, n, K, V, TN⟩ (.slice (some ⟨bg, 0, none⟩) M cv) k) ∧ i = .int .i64 (k : Int) ∧ p = .slice (some ⟨bg, 0, none⟩) M cv)
  case atStart => exact ⟨0, 2, _, 2, ⟨rfl, by omega, rfl, START.out⟩, rfl, rfl⟩
  case round =>
    clear START x0 x1 x2
    obtain ⟨k, M, bg, cv, ⟨hg, hk, hM, hP⟩, rfl, rfl⟩ := hrel
    have HK : Hid (gk = n - k ∧ M = 2 + 2 * k ∧ PutIn u1 wr ⟨d, s, n, K, V, TN⟩ (.slice (some ⟨bg, 0, none⟩) M cv) k) := ⟨hg, hM, hP⟩
    have hM6 : M ≤ 6 := by omega
    have hsz := hP.since.size
    have HO : Hid (wr.ownsRow u1.heap.size 9 1 (.slice (some ⟨bg, 0, none⟩) M cv) M (strCells (parts ⟨d, s, n, K, V, TN⟩ k))) := by
      show wr.ownsRow u1.heap.size 9 1 (.slice (some ⟨bg, 0, none⟩) M cv) M (strCells (parts ⟨d, s, n, K, V, TN⟩ k))
      have := hP.own
      rw [← hM] at this
      exact this
    clear hg hM
    by_cases hz : k < n
    · obtain ⟨rfl, KN, VN, eK, eV, lK, lV, e1, e2⟩ := cell.out k hz
      have EE : Hid (K k = KN ∧ V k = VN) := ⟨eK, eV⟩
      have t1 := (hP.since.cell (World.block_lt_of_cell? _ _ ((BS.out.cell (World.block_lt_of_cell? _ _ e1)).trans e1))).trans ((BS.out.cell (World.block_lt_of_cell? _ _ e1)).trans e1)
      have t2 := (hP.since.cell (World.block_lt_of_cell? _ _ ((BS.out.cell (World.block_lt_of_cell? _ _ e2)).trans e2))).trans ((BS.out.cell (World.block_lt_of_cell? _ _ e2)).trans e2)
      have bn : (k : Int) < n := by omega
      have HS : Hid (Below u1.heap.size u1 wr) := hP.since
      clear hP e1 e2 eK eV
      go_wp2_with fail
      go_region_law (first
        | (go_simp; have O1' := O1; clear O1'; go_at_call 43; refine (number_any VN _ lV).mono ?_; rintro e q2 ⟨rfl, c2⟩; have c2' : Below q1.heap.size q1 q2 := ⟨c2.os, c2.tape, c2.output, c2.size, c2.block⟩; have O2 : Hid (q2.ownsRow u1.heap.size 9 1 (.slice (some ⟨bg, 0, none⟩) M cv) M (strCells (parts ⟨d, s, n, K, V, TN⟩ k))) := owns_below O1.out c2'; have S2 : Hid (Below u1.heap.size u1 q2) := bel_trans S1.out c2'; have z2 : u1.heap.size ≤ q2.heap.size := S2.out.size; clear c2 c2')
        | (go_simp; go_at_call 43; refine (number_any KN _ lK).mono ?_; rintro e q1 ⟨rfl, c1⟩; have c1' : Below (wr.alloc (.cells #[.int .i64 (KN : Int), .int .i64 (VN : Int)] 83)).heap.size (wr.alloc (.cells #[.int .i64 (KN : Int), .int .i64 (VN : Int)] 83)) q1 := ⟨c1.os, c1.tape, c1.output, c1.size, c1.block⟩; have m1 : q1.cell? ⟨wr.heap.size, 1, none⟩ = some (.int .i64 (VN : Int)) := ((Blk.new wr 83 #[.int .i64 (KN : Int), .int .i64 (VN : Int)]).below c1' (by simp)).cell 1; have O1 : Hid (q1.ownsRow u1.heap.size 9 1 (.slice (some ⟨bg, 0, none⟩) M cv) M (strCells (parts ⟨d, s, n, K, V, TN⟩ k))) := owns_below (HO.out.alloc _) c1'; have S1 : Hid (Below u1.heap.size u1 q1) := (HS.out.alloc hsz _).trans (c1'.mono (by simp; omega)); clear c1 c1')
        | (refine step_append_lies _ rfl (.tmp 24) (.tmp 31) 81 rfl u1.heap.size 9 iS (.string ⟨#[]⟩) 1 16 Try.underlying81 HI.out.1 HI.out.2.1 HI.out.2.2.1 HI.out.2.2.2 rfl (by omega) (.slice (some ⟨bg, 0, none⟩) M cv) M (strCells (parts ⟨d, s, n, K, V, TN⟩ k)) (by simp [Act.eval]) (O2.out.alloc _) ⟨q2.heap.size, 0, none⟩ 2 2 [.string (bsL (bytesL KN 2)), .string (bsL (bytesL VN 2))] (by simp [Act.eval]) rfl (new_tag q2 9 _ _) (str_cell _ _) (by omega) (by unfold maxLen; omega) (by omega) (by simp; omega) (q2.heap.size + 1) (by simp) ?_; intro g cap1 w1 hown1 hgrow hat hlt1; have ST : Hid (PutIn u1 w1 ⟨d, s, n, K, V, TN⟩ (.slice (some ⟨g, 0, none⟩) (M + 2) cap1) (k + 1)) := put_step S2.out O2.out EE.out HK.out.2.1 hown1 (b := .cells #[.string (bsL (bytesL KN 2)), .string (bsL (bytesL VN 2))] 9) ⟨hgrow.os, hgrow.tape, hgrow.output, hgrow.size, hgrow.block⟩; clear hown1 hgrow hat hlt1))
      all_goals go_wp2_with fail
      all_goals go_roundg (n - (k + 1))
      all_goals first | (have := HK.out.1; omega) | exact ⟨k + 1, M + 2, _, _, ⟨rfl, by omega, (by have := HK.out.2.1; omega), ST.out⟩, by go_num, rfl⟩
    · have e : k = n := by omega
      subst e
      have x3 : wr.cell? ⟨w.heap.size, 3, none⟩ = some (.int .i64 (TN : Int)) := (BX.out.below hP.since xl).cell 3
      have HS : Hid (Below u1.heap.size u1 wr) := hP.since
      clear hP
      go_wp2_with fail
      refine (number_any TN _ hT2).mono ?_
      rintro e q1 ⟨rfl, c1⟩
      have O1 : Hid (q1.ownsRow u1.heap.size 9 1 (.slice (some ⟨bg, 0, none⟩) M cv) M (strCells (parts ⟨d, s, k, K, V, TN⟩ k))) := owns_below HO.out c1
      have S1 : Hid (Below u1.heap.size u1 q1) := bel_trans HS.out c1
      have z1 : u1.heap.size ≤ q1.heap.size := S1.out.size
      clear c1
      go_wp2_with (at_builtin; refine wpList_append_lies _ rfl _ _ _ rfl u1.heap.size 9 iS (.string ⟨#[]⟩) 1 16 Try.underlying81 HI.out.1 HI.out.2.1 HI.out.2.2.1 HI.out.2.2.2 rfl (by omega) (.slice (some ⟨bg, 0, none⟩) M cv) M (strCells (parts ⟨d, s, k, K, V, TN⟩ k)) (by rfl) (O1.out.alloc _) ⟨q1.heap.size, 0, none⟩ 2 2 [.string (bsL (bytesL TN 2)), .string (bsL body)] (by rfl) rfl (new_tag q1 9 _ _) (str_cell _ _) (by omega) (by unfold maxLen; omega) (by omega) (by simp; omega) _ rfl ?_; intro g cap1 w1 hown1 hgrow hat hlt1; have ST : Hid (Below u1.heap.size u1 w1 ∧ w1.ownsRow u1.heap.size 9 1 (.slice (some ⟨g, 0, none⟩) (M + 2) cap1) (M + 2) (strCells (parts ⟨d, s, k, K, V, TN⟩ k ++ [bytesL TN 2, body]))) := put_last S1.out O1.out hown1 hgrow; clear hown1 hgrow hat hlt1)
      have FL : Hid ((parts ⟨d, s, k, K, V, TN⟩ k ++ [bytesL TN 2, body]).flatten = headL ⟨d, s, k, K, V, TN⟩ ++ body) := all_flat ⟨d, s, k, K, V, TN⟩ body
      have LL : Hid ((headL ⟨d, s, k, K, V, TN⟩).length = 14 + 4 * k) := head_len HR.out
      refine (join_any _ _ u1.heap.size (M + 2) (parts ⟨d, s, k, K, V, TN⟩ k ++ [bytesL TN 2, body]) ST.out.2 (by omega) (by omega) (by rw [FL.out, List.length_append, LL.out]; omega)).mono ?_
      rintro e q2 ⟨rfl, c2⟩
      rw [FL.out]
      go_wp2_with fail
      go_returns
      exact ⟨rfl, bel_trans (BS.out.trans (ST.out.1.mono BS.out.size)) c2⟩
end Go.Proofs.Yticopigpgaomjaa.L5
