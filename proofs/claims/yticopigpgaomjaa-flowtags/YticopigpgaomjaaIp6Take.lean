
/-
  Take: what it answers of any bytes.
-/
import Derived.Test.YticopigpgaomjaaIp6Ref
namespace Go.Proofs.Yticopigpgaomjaa.L7
open Go.RowKit Oc Ip6 Go.Deep
set_option linter.unusedVariables false

/-- What takeExt tells. -/
def TookX (w : World) (K : Int) (s : List UInt8) (e : Ending) (w' : World) : Prop :=
  ((s.length < 8 ∨ s.length < endX K s) ∧ e = .returned (.tuple #[.int .i64 0, .string ⟨#[]⟩, .string ⟨#[]⟩, .int .i64 2]) ∧ Below w.heap.size w w') ∨
  (∃ (N : Nat) (D r : List UInt8), (8 ≤ s.length ∧ endX K s ≤ s.length ∧ atL s 0 = N ∧ dataX K s = D ∧ s.drop (endX K s) = r) ∧ e = .returned (.tuple #[.int .i64 (N : Int), .string (bsL D), .string (bsL r), .int .i64 0]) ∧ Below w.heap.size w w')
set_option maxHeartbeats 1600000 in
theorem ext_any (K : Int) (s : List UInt8) (w : World) (hl : s.length ≤ 1152921504606846976) : Calls Try.prog 89 #[.int .i64 K, .string (bsL s)] w (TookX w K s) := by
  by_cases h1 : s.length < 1
  · go_enter Try.func89, Try.ntmps89
    go_wp2_with fail
    refine (take_short s 1 _ (by omega) (by omega) (by omega)).mono ?_
    rintro e u1 ⟨rfl, b1⟩
    go_wp2_with fail
    go_returns
    exact Or.inl ⟨Or.inl (by omega), rfl, b1⟩
  have N0 : Hid (numL (s.take 1) = atL s 0) := num_one s 0 (by omega)
  have a0 := atL_lt s 0
  obtain ⟨N, hN⟩ : ∃ N, N = atL s 0 := ⟨_, rfl⟩
  rw [← hN] at N0 a0
  have HN : Hid (atL s 0 = N) := hN.symm
  obtain ⟨r1, hr1⟩ : ∃ r, r = s.drop 1 := ⟨_, rfl⟩
  have l1 : r1.length = s.length - 1 := by rw [hr1]; simp
  have R1 : Hid (s.drop 1 = r1) := hr1.symm
  clear hN hr1
  have TK : Hid (∀ w : World, Calls Try.prog 55 #[.string (bsL s), .int .i64 1] w fun e w' => e = .returned (.tuple #[.int .i64 (N : Int), .string (bsL r1), .int .i64 0]) ∧ Below w.heap.size w w') := fun w => by
    have t := take_ok s 1 w (by omega) (by omega) (by omega)
    rw [N0.out, R1.out] at t
    exact t
  by_cases hk : K = 44
  · subst hk
    have E8 : Hid (endX 44 s = 8 ∧ dataX 44 s = r1.take 7 ∧ s.drop 8 = r1.drop 7) := by
      refine ⟨rfl, ?_, ?_⟩
      · show (s.drop 1).take 7 = _
        rw [R1.out]
      · rw [← R1.out, List.drop_drop]
    by_cases h8 : s.length < 8
    · go_enter Try.func89, Try.ntmps89
      go_wp2_with fail
      refine (TK.out _).mono ?_
      rintro e u1 ⟨rfl, b1⟩
      go_wp2_with fail
      refine (cut_short r1 7 _ (by omega) (by omega)).mono ?_
      rintro e u2 ⟨rfl, b2⟩
      go_wp2_with fail
      go_returns
      exact Or.inl ⟨Or.inl h8, rfl, bel_trans b1 b2⟩
    · go_enter Try.func89, Try.ntmps89
      go_wp2_with fail
      refine (TK.out _).mono ?_
      rintro e u1 ⟨rfl, b1⟩
      go_wp2_with fail
      refine (cut_ok r1 7 _ (by omega)).mono ?_
      rintro e u2 ⟨rfl, b2⟩
      go_wp2_with fail
      go_returns
      refine Or.inr ⟨N, r1.take 7, r1.drop 7, ⟨by omega, by rw [E8.out.1]; omega, HN.out, E8.out.2.1, ?_⟩, rfl, bel_trans b1 b2⟩
      rw [E8.out.1]; exact E8.out.2.2
  have qk : (K != 44) = true := by simpa using hk
  have HK : Hid (K ≠ 44) := hk
  clear hk
  by_cases h2 : s.length < 2
  · go_enter Try.func89, Try.ntmps89
    go_wp2_with fail
    refine (TK.out _).mono ?_
    rintro e u1 ⟨rfl, b1⟩
    go_wp2_with fail
    refine (take_short r1 1 _ (by omega) (by omega) (by omega)).mono ?_
    rintro e u2 ⟨rfl, b2⟩
    go_wp2_with fail
    go_returns
    exact Or.inl ⟨Or.inl (by omega), rfl, bel_trans b1 b2⟩
  have N1 : Hid (numL (r1.take 1) = atL s 1) := by
    show numL (r1.take 1) = atL s 1
    rw [← R1.out]; exact num_one s 1 (by omega)
  have a1 := atL_lt s 1
  obtain ⟨U, hU⟩ : ∃ U, U = atL s 1 := ⟨_, rfl⟩
  rw [← hU] at N1 a1
  obtain ⟨r2, hr2⟩ : ∃ r, r = r1.drop 1 := ⟨_, rfl⟩
  have l2 : r2.length = s.length - 2 := by rw [hr2]; simp; omega
  have R2 : Hid (r1.drop 1 = r2 ∧ s.drop 2 = r2) := ⟨hr2.symm, by rw [hr2, ← R1.out, List.drop_drop]⟩
  obtain ⟨S, hS⟩ : ∃ S, S = 6 + 8 * U := ⟨_, rfl⟩
  have zS : (6 : Int) + 8 * (U : Int) = (S : Int) := by omega
  have S1 : S ≤ 2046 := by omega
  have EX : Hid (endX K s = 2 + S ∧ dataX K s = r2.take S ∧ s.drop (2 + S) = r2.drop S) := by
    have e : endX K s = 2 + S := by unfold endX; rw [if_neg HK.out, ← hU]; omega
    refine ⟨e, ?_, ?_⟩
    · unfold dataX
      rw [e]
      unfold hdX
      rw [if_neg HK.out, R2.out.2, Nat.add_sub_cancel_left]
    · rw [← R2.out.2, List.drop_drop]
  clear hU hr2 hS
  have TK2 : Hid (∀ w : World, Calls Try.prog 55 #[.string (bsL r1), .int .i64 1] w fun e w' => e = .returned (.tuple #[.int .i64 (U : Int), .string (bsL r2), .int .i64 0]) ∧ Below w.heap.size w w') := fun w => by
    have t := take_ok r1 1 w (by omega) (by omega) (by omega)
    rw [N1.out, R2.out.1] at t
    exact t
  by_cases h8 : r2.length < S
  · go_enter Try.func89, Try.ntmps89
    go_wp2_with fail
    refine (TK.out _).mono ?_
    rintro e u1 ⟨rfl, b1⟩
    go_wp2_with fail
    refine (TK2.out _).mono ?_
    rintro e u2 ⟨rfl, b2⟩
    go_wp2_with fail
    refine (cut_short r2 S _ (by omega) (by omega)).mono ?_
    rintro e u3 ⟨rfl, b3⟩
    go_wp2_with fail
    go_returns
    exact Or.inl ⟨Or.inr (by rw [EX.out.1]; omega), rfl, bel_trans (bel_trans b1 b2) b3⟩
  · go_enter Try.func89, Try.ntmps89
    go_wp2_with fail
    refine (TK.out _).mono ?_
    rintro e u1 ⟨rfl, b1⟩
    go_wp2_with fail
    refine (TK2.out _).mono ?_
    rintro e u2 ⟨rfl, b2⟩
    go_wp2_with fail
    refine (cut_ok r2 S _ (by omega)).mono ?_
    rintro e u3 ⟨rfl, b3⟩
    go_wp2_with fail
    go_returns
    refine Or.inr ⟨N, r2.take S, r2.drop S, ⟨?_, by rw [EX.out.1]; omega, HN.out, EX.out.2.1, by rw [EX.out.1]; exact EX.out.2.2⟩, rfl, bel_trans (bel_trans b1 b2) b3⟩
    omega
/-- What takeChain tells. -/
def TookC (w : World) (K : Int) (s : List UInt8) (e : Ending) (w' : World) : Prop :=
  (takeC 8 K s = none ∧ e = .returned (.tuple #[.slice none 0 0, .int .i64 0, .string ⟨#[]⟩, .int .i64 15]) ∧ Below w.heap.size w w') ∨
  (∃ (C : List Ex) (p : Int) (r : List UInt8) (ao : Option Addr) (n cv : Nat), takeC 8 K s = some ⟨C, p, r⟩ ∧ e = .returned (.tuple #[.slice ao n cv, .int .i64 p, .string (bsL r), .int .i64 0]) ∧ ChAt w' (.slice ao n cv) C ∧ Below w.heap.size w w' ∧ ∀ A, ao = some A → w.heap.size ≤ A.block)
/-- What the loop of takeChain keeps. -/
structure ChIn (w wr : World) (K0 : Int) (s0 : List UInt8) (K : Int) (r : List UInt8) (v : Value) (k : Nat) (P : List Ex) : Prop where
  since : Below w.heap.size w wr
  went : Went K0 s0 P K r
  len : P.length = k
  rest : r.length ≤ s0.length
  own : wr.ownsRow w.heap.size 127 2 v k (exCells P)
theorem ChIn.step {w wr u w1 : World} {K0 K : Int} {s0 r D r' : List UInt8} {v v' : Value} {k N : Nat} {P : List Ex} {y : Obj} (h : ChIn w wr K0 s0 K r v k P) (hu : Below wr.heap.size wr u) (hK : isX K = true) (hk : k < 8) (h0 : K = 0 → k = 0)
    (hx : 8 ≤ r.length ∧ endX K r ≤ r.length ∧ atL r 0 = N ∧ dataX K r = D ∧ r.drop (endX K r) = r')
    (hown : w1.ownsRow w.heap.size 127 2 v' (k + 1) (exCells P ++ [.int .i64 K, .string (bsL D)])) (hg : (u.alloc y).grownBy w1 v.ownBlock) : ChIn w w1 K0 s0 (N : Int) r' v' (k + 1) (P ++ [⟨K, D⟩]) := by
  obtain ⟨x1, x2, x3, x4, x5⟩ := hx
  have hl := h.len
  have hs : Below w.heap.size w u := bel_trans h.since hu
  refine ⟨(hs.alloc hs.size y).grown hg (by have := hs.size; simp; omega) fun q e => (h.own.lt q e).1, ?_, by simp; omega, ?_, ?_⟩
  · have st := went_step h.went hK (by omega) (fun e => by have := h0 e; omega) x1 x2
    rw [x3, x4, x5] at st
    exact st
  · have := h.rest
    rw [← x5, List.length_drop]
    omega
  · rw [exCells_app]; exact hown
set_option maxHeartbeats 3200000 in
theorem chainT_any (w : World) (K0 : Int) (s0 : List UInt8) (hm : s0.length ≤ 1152921504606846976) : Calls Try.prog 79 #[.int .i64 K0, .string (bsL s0)] w (TookC w K0 s0) := by
  obtain ⟨iH, hi, hz, hs, hb⟩ := infoH
  have HI : Hid (Try.prog.info? 127 = some iH ∧ iH.zero = some (.agg #[.int .i64 0, .string ⟨#[]⟩]) ∧ iH.size = 2 ∧ iH.bytes = 24) := ⟨hi, hz, hs, hb⟩
  clear hi hz hs hb
  have START : Hid (ChIn w w K0 s0 K0 s0 (.slice none 0 0) 0 []) := ⟨Below.refl _ _, went_start K0 s0, rfl, Nat.le_refl _, World.ownsRow_nil _ _ _ _⟩
  go_enter Try.func79, Try.ntmps79
  go_wp2_with fail
  go_loopg [0, 1, 8] 8 (fun g x y z wr => ∃ (k : Nat) (K : Int) (r : List UInt8) (ao : Option Addr) (cv : Nat) (P : List Ex), (g = 8 - k ∧ ChIn w wr K0 s0 K r (.slice ao k cv) k P) ∧ x = .int .i64 K ∧ y = .string (bsL r) ∧ z = .slice ao k cv)
  case atStart => exact ⟨0, K0, s0, none, 0, [], ⟨rfl, START.out⟩, rfl, rfl, rfl⟩
  case round =>
    clear START
    obtain ⟨k, K, r, ao, cv, P, ⟨hg, hR⟩, rfl, rfl, rfl⟩ := hrel
    have HK : Hid (gk = 8 - k ∧ ChIn w wr K0 s0 K r (.slice ao k cv) k P) := ⟨hg, hR⟩
    have hk8 : k ≤ 8 := by have := hR.went.1; have := hR.len; omega
    have hrl : r.length ≤ 1152921504606846976 := by have := hR.rest; omega
    clear hg hR
    have NO : Hid (∀ w' : World, takeC 8 K0 s0 = none → Below wr.heap.size wr w' → TookC w K0 s0 (.returned (.tuple #[.slice none 0 0, .int .i64 0, .string ⟨#[]⟩, .int .i64 15])) w') := fun w' h1 h2 => Or.inl ⟨h1, rfl, bel_trans HK.out.2.since h2⟩
    by_cases hX : isX K = true
    rotate_left
    · have hX' : isX K = false := by simpa using hX
      clear hX
      have FIN : Hid (TookC w K0 s0 (.returned (.tuple #[.slice ao k cv, .int .i64 K, .string (bsL r), .int .i64 0])) wr) := Or.inr ⟨P, K, r, ao, k, cv, went_done HK.out.2.went hX', rfl, owns_ch HK.out.2.own HK.out.2.len, HK.out.2.since, fun A e => (HK.out.2.own.lt A.block (by rw [e]; rfl)).1⟩
      go_wp2_with fail
      refine (xkind_any K _).mono ?_
      rintro e u1 ⟨rfl, rfl⟩
      go_wp2_with fail
      go_returns
      exact FIN.out
    have HX : Hid (isX K = true) := hX
    by_cases hf : k = 8
    · subst hf
      have TN : Hid (takeC 8 K0 s0 = none) := went_full HK.out.2.went hX HK.out.2.len
      go_wp2_with fail
      refine (xkind_any K _).mono ?_
      rintro e u1 ⟨rfl, rfl⟩
      go_wp2_with fail
      go_returns
      exact NO.out _ TN.out (Below.refl _ _)
    have qf : ((k : Int) == 8) = false := by simp; omega
    have hk : k < 8 := by omega
    clear hf
    by_cases hM : mayB k K = true
    rotate_left
    · have hM' : mayB k K = false := by simpa using hM
      have TN : Hid (takeC 8 K0 s0 = none) := by
        have hl := HK.out.2.len
        refine went_not HK.out.2.went hX (by omega) (Or.inl ?_)
        by_cases e : K = 0
        · refine ⟨e, ?_⟩
          rcases Nat.lt_or_ge 0 P.length with h | h
          · exact h
          · exact absurd (mayB_iff.2 ⟨hX, fun _ => by omega⟩) hM
        · exact absurd (mayB_iff.2 ⟨hX, fun e' => absurd e' e⟩) hM
      clear hM
      go_wp2_with fail
      refine (xkind_any K _).mono ?_
      rintro e u1 ⟨rfl, rfl⟩
      go_wp2_with fail
      refine (may_any k K _).mono ?_
      rintro e u1 ⟨rfl, rfl⟩
      go_wp2_with fail
      go_returns
      exact NO.out _ TN.out (Below.refl _ _)
    have HM : Hid (K = 0 → k = 0) := (mayB_iff.1 hM).2
    go_wp2_with fail
    refine (xkind_any K _).mono ?_
    rintro e u1 ⟨rfl, rfl⟩
    go_wp2_with fail
    refine (may_any k K _).mono ?_
    rintro e u1 ⟨rfl, rfl⟩
    go_wp2_with fail
    refine (ext_any K r _ hrl).mono ?_
    rintro e u3 (⟨hno, rfl, b3⟩ | ⟨N, D, r', hyes, rfl, b3⟩)
    · have TN : Hid (takeC 8 K0 s0 = none) := went_not HK.out.2.went HX.out (by have := HK.out.2.len; omega) (Or.inr hno)
      clear hno
      go_wp2_with fail
      go_returns
      exact NO.out _ TN.out b3
    · have HY : Hid (8 ≤ r.length ∧ endX K r ≤ r.length ∧ atL r 0 = N ∧ dataX K r = D ∧ r.drop (endX K r) = r') := hyes
      have BU : Hid (Below u1.heap.size u1 u3) := b3
      have HO : Hid (u3.ownsRow w.heap.size 127 2 (.slice ao k cv) k (exCells P)) := owns_below HK.out.2.own b3
      have hsz : w.heap.size ≤ u3.heap.size := (bel_trans HK.out.2.since b3).size
      clear hyes b3
      go_wp2_with (at_builtin; refine wpList_append_lies _ rfl _ _ _ rfl w.heap.size 127 iH (.agg #[.int .i64 0, .string ⟨#[]⟩]) 2 24 Try.underlying111 HI.out.1 HI.out.2.1 HI.out.2.2.1 HI.out.2.2.2 rfl (by omega) (.slice ao k cv) k (exCells P) (by rfl) (HO.out.alloc _) ⟨u3.heap.size, 0, none⟩ 1 1 [.int .i64 K, .string (bsL D)] (by rfl) rfl (new_pair u3 _ _ _) (ex_cell _ _) (by omega) (by unfold maxLen; omega) (by omega) (by simp; omega) _ rfl ?_; intro g1 cap1 w1 hown1 hgrow hat hlt1; have ST : Hid (_) := HK.out.2.step BU.out HX.out hk HM.out HY.out hown1 hgrow; clear hown1 hgrow hat hlt1)
      go_roundg (8 - (k + 1))
      case measure => have := HK.out.1; omega
      case rel => exact ⟨k + 1, _, _, _, _, _, ⟨rfl, ST.out⟩, rfl, rfl, rfl⟩
/-- What Take tells of any bytes. -/
def Took (w : World) (l : List UInt8) (e : Ending) (w' : World) : Prop :=
  ∃ (c b h p : Int) (s d : List UInt8) (C : List Ex) (A : Option Addr) (n cap : Nat) (r : List UInt8) (E : Nat), e = .returned (.tuple #[.agg #[.int .i64 c, .int .i64 b, .int .i64 h, .int .i64 p, .string (bsL s), .string (bsL d), .slice A n cap], .string (bsL r), .int .i64 (E : Int)]) ∧ (hdOf l = ⟨c, b, h, p, s, d, C⟩ ∧ bodyOf l = r ∧ takeE l = E ∧ C.length = n) ∧ ChAt w' (.slice A n cap) C ∧ Below w.heap.size w w'
theorem took_err {w w' : World} {l : List UInt8} {E : Nat} (h : takeE l = E) (hc : E ≠ 0) (hb : Below w.heap.size w w') : Took w l (.returned (.tuple #[.agg #[.int .i64 0, .int .i64 0, .int .i64 0, .int .i64 0, .string ⟨#[]⟩, .string ⟨#[]⟩, .slice none 0 0], .string ⟨#[]⟩, .int .i64 (E : Int)])) w' := by
  obtain ⟨e1, e2⟩ := take_err (l := l) (by rw [h]; exact hc)
  exact ⟨0, 0, 0, 0, [], [], [], none, 0, 0, [], E, rfl, ⟨e1, e2, h, rfl⟩, ChAt.none _, hb⟩
theorem ch_other {w w' : World} {A : Option Addr} {n cap g : Nat} {C : List Ex} (h : ChAt w (.slice A n cap) C) (hA : ∀ a, A = some a → a.block ≠ g) (hw : ∀ q, q ≠ g → w'.heap[q]? = w.heap[q]?) : ChAt w' (.slice A n cap) C := by
  obtain ⟨A', cap', b, o, h1, h2, h3, h4⟩ := h
  refine ⟨A', cap', b, o, h1, h2, h3, fun i x hi => ?_⟩
  have hl : i < C.length := by
    rcases Nat.lt_or_ge i C.length with h1 | h1
    · exact h1
    · rw [List.getElem?_eq_none h1] at hi; cases hi
  have hne : b ≠ g := hA ⟨b, o, none⟩ (by cases h1; exact h3 (by omega))
  rw [World.cell?_of_block (w := w) (w' := w') (a := ⟨b, o + i * 2, none⟩) (hw b hne), World.cell?_of_block (w := w) (w' := w') (a := ⟨b, o + i * 2 + 1, none⟩) (hw b hne)]
  exact h4 i x hi
theorem and255 (n : Nat) (h : n < 4294967296) : bits .and .i64 (n : Int) 255 = ((n % 256 : Nat) : Int) := by
  have o := bits_and_i64 n 255 (by omega) (by omega)
  rw [show (255 : Nat) = 2 ^ 8 - 1 from rfl, Nat.and_two_pow_sub_one_eq_mod] at o
  exact o
theorem and20 (n : Nat) (h : n < 4294967296) : bits .and .i64 (n : Int) 1048575 = ((n % 1048576 : Nat) : Int) := by
  have o := bits_and_i64 n 1048575 (by omega) (by omega)
  rw [show (1048575 : Nat) = 2 ^ 20 - 1 from rfl, Nat.and_two_pow_sub_one_eq_mod] at o
  exact o
set_option maxHeartbeats 3200000 in
theorem ptake_any (w : World) (l : List UInt8) (hl : l.length ≤ 1152921504606846976) : Calls Try.prog 65 #[.string (bsL l)] w (Took w l) := by
  have B0 : Hid (Below w.heap.size w (w.alloc (.cells #[.int .i64 0, .int .i64 0, .int .i64 0, .int .i64 0, .string ⟨#[]⟩, .string ⟨#[]⟩, .slice none 0 0] 113))) := bel_alloc _ _
  have K0 : Hid (Blk (w.alloc (.cells #[.int .i64 0, .int .i64 0, .int .i64 0, .int .i64 0, .string ⟨#[]⟩, .string ⟨#[]⟩, .slice none 0 0] 113)) w.heap.size 113 #[.int .i64 0, .int .i64 0, .int .i64 0, .int .i64 0, .string ⟨#[]⟩, .string ⟨#[]⟩, .slice none 0 0]) := Blk.new _ _ _
  by_cases h1 : (l.length : Int) < 40
  · have E : Hid (takeE l = 2) := Ip6.take_short (by omega)
    go_enter Try.func65, Try.ntmps65
    go_wp2_with fail
    go_returns
    exact took_err (E := 2) E.out (by decide) B0.out
  have W0 : Hid (numL ((l.drop 0).take 4) = wordL l) := rfl
  have W1 : wordL l < 4294967296 := by
    have := num_take_lt l 4
    unfold wordL; omega
  have WZ := word_zero (l := l) (by omega)
  obtain ⟨W, hW⟩ : ∃ W, W = wordL l := ⟨_, rfl⟩
  rw [← hW] at W0 W1 WZ
  have HW : Hid (wordL l = W ∧ W / 268435456 = atL l 0 / 16) := ⟨hW.symm, WZ⟩
  clear hW WZ
  by_cases h2 : W / 268435456 = 6
  rotate_left
  · have q2 : ((W : Int) / 268435456 != 6) = true := by simp; omega
    have E : Hid (takeE l = 10) := take_version (by omega) (by have := HW.out.2; omega)
    clear h2
    go_enter Try.func65, Try.ntmps65
    go_wp2_with fail
    refine (numat_any l 0 4 _ (by omega) (by omega) (by omega) hl).mono ?_
    rintro e u1 ⟨rfl, b1⟩
    rw [W0.out]
    have K1 : Hid (Blk u1 w.heap.size 113 #[.int .i64 0, .int .i64 0, .int .i64 0, .int .i64 0, .string ⟨#[]⟩, .string ⟨#[]⟩, .slice none 0 0]) := K0.out.since b1
    have B1 : Hid (Below w.heap.size w u1) := bel_trans B0.out b1
    clear b1
    have x0 : u1.cell? ⟨w.heap.size, 0, none⟩ = some (.int .i64 0) := K1.out.cell 0
    have x1 : u1.cell? ⟨w.heap.size, 1, none⟩ = some (.int .i64 0) := K1.out.cell 1
    have x2 : u1.cell? ⟨w.heap.size, 2, none⟩ = some (.int .i64 0) := K1.out.cell 2
    have x3 : u1.cell? ⟨w.heap.size, 3, none⟩ = some (.int .i64 0) := K1.out.cell 3
    have x4 : u1.cell? ⟨w.heap.size, 4, none⟩ = some (.string ⟨#[]⟩) := K1.out.cell 4
    have x5 : u1.cell? ⟨w.heap.size, 5, none⟩ = some (.string ⟨#[]⟩) := K1.out.cell 5
    have x6 : u1.cell? ⟨w.heap.size, 6, none⟩ = some (.slice none 0 0) := K1.out.cell 6
    have y0 := K1.out.frozen 0
    have y1 := K1.out.frozen 1
    have y2 := K1.out.frozen 2
    have y3 := K1.out.frozen 3
    have y4 := K1.out.frozen 4
    have y5 := K1.out.frozen 5
    have y6 := K1.out.frozen 6
    go_wp2_with fail
    refine bodyPost_ret (v := .tuple #[.agg #[.int .i64 0, .int .i64 0, .int .i64 0, .int .i64 0, .string ⟨#[]⟩, .string ⟨#[]⟩, .slice none 0 0], .string ⟨#[]⟩, .int .i64 10]) ?_ rfl (took_err (E := 10) E.out (by decide) (put7_below B1.out (Nat.le_refl _) (.int .i64 0) (.int .i64 0) (.int .i64 0) (.int .i64 0) (.string ⟨#[]⟩) (.string ⟨#[]⟩) (.slice none 0 0)))
    have c7 := put7_blk (t := 113) K1.out (.int .i64 0) (.int .i64 0) (.int .i64 0) (.int .i64 0) (.string ⟨#[]⟩) (.string ⟨#[]⟩) (.slice none 0 0)
    have c70 := c7.cell 0
    have c71 := c7.cell 1
    have c72 := c7.cell 2
    have c73 := c7.cell 3
    have c74 := c7.cell 4
    have c75 := c7.cell 5
    have c76 := c7.cell 6
    change (results _ _).run _ (put7 u1 w.heap.size (.int .i64 0) (.int .i64 0) (.int .i64 0) (.int .i64 0) (.string ⟨#[]⟩) (.string ⟨#[]⟩) (.slice none 0 0)) = .ok _ (put7 u1 w.heap.size (.int .i64 0) (.int .i64 0) (.int .i64 0) (.int .i64 0) (.string ⟨#[]⟩) (.string ⟨#[]⟩) (.slice none 0 0))
    generalize put7 u1 w.heap.size (.int .i64 0) (.int .i64 0) (.int .i64 0) (.int .i64 0) (.string ⟨#[]⟩) (.string ⟨#[]⟩) (.slice none 0 0) = W7 at c70 c71 c72 c73 c74 c75 c76
    simp [results, Try.results65, go_sem, c70, c71, c72, c73, c74, c75, c76]
  have q2 : ((W : Int) / 268435456 != 6) = false := by simp; omega
  have H2 : Hid (atL l 0 / 16 = 6) := by show atL l 0 / 16 = 6; have := HW.out.2; omega
  clear h2
  have N4 : Hid (numL ((l.drop 4).take 2) = lenL l) := num_two l 4 (by omega)
  have L1 : lenL l < 65536 := pairL_lt l 4
  obtain ⟨Ln, hL⟩ : ∃ Ln, Ln = lenL l := ⟨_, rfl⟩
  rw [← hL] at N4 L1
  have HL : Hid (lenL l = Ln) := hL.symm
  clear hL
  have D40 := bsL_drop l 40
  rw [bsL_size] at D40
  obtain ⟨z, hz⟩ : ∃ z, z = l.drop 40 := ⟨_, rfl⟩
  have zl : z.length = l.length - 40 := by rw [hz]; simp
  rw [← hz] at D40
  have HZ : Hid (l.drop 40 = z) := hz.symm
  clear hz
  have l40 : (40 : Int) ≤ l.length := by omega
  have l8 : (8 : Int) ≤ l.length := by omega
  have l24 : (24 : Int) ≤ l.length := by omega
  have START : Hid (∀ u1 : World, Below (w.alloc (.cells #[.int .i64 0, .int .i64 0, .int .i64 0, .int .i64 0, .string ⟨#[]⟩, .string ⟨#[]⟩, .slice none 0 0] 113)).heap.size (w.alloc (.cells #[.int .i64 0, .int .i64 0, .int .i64 0, .int .i64 0, .string ⟨#[]⟩, .string ⟨#[]⟩, .slice none 0 0] 113)) u1 → Blk u1 w.heap.size 113 #[.int .i64 0, .int .i64 0, .int .i64 0, .int .i64 0, .string ⟨#[]⟩, .string ⟨#[]⟩, .slice none 0 0] ∧ Below w.heap.size w u1) := fun u1 b1 => ⟨K0.out.since b1, bel_trans B0.out b1⟩
  by_cases h3 : l.length < 40 + Ln
  · have E : Hid (takeE l = 13) := take_length (by omega) H2.out (by rw [HL.out]; exact h3)
    go_enter Try.func65, Try.ntmps65
    go_wp2_with fail
    refine (numat_any l 0 4 _ (by omega) (by omega) (by omega) hl).mono ?_
    rintro e u1 ⟨rfl, b1⟩
    rw [W0.out]
    have K1 : Hid (Blk u1 w.heap.size 113 #[.int .i64 0, .int .i64 0, .int .i64 0, .int .i64 0, .string ⟨#[]⟩, .string ⟨#[]⟩, .slice none 0 0]) := (START.out u1 b1).1
    have B1 : Hid (Below w.heap.size w u1) := (START.out u1 b1).2
    clear b1
    go_wp2_with fail
    go_region_held3 (fun _ => True) (trivial) (first
      | (go_simp; go_at_call 45; refine (cut_short z Ln _ (by omega) (by omega)).mono ?_; rintro e q2 ⟨rfl, c2⟩; have K3 : Hid (Blk q2 w.heap.size 113 #[.int .i64 0, .int .i64 0, .int .i64 0, .int .i64 0, .string ⟨#[]⟩, .string ⟨#[]⟩, .slice none 0 0]) := K2.out.since c2; have B3 : Hid (Below w.heap.size w q2) := bel_trans B2.out c2; clear c2)
      | (go_simp; go_at_call 78; refine (numat_any l 4 2 _ (by omega) (by omega) (by omega) hl).mono ?_; rintro e q1 ⟨rfl, c1⟩; rw [N4.out]; have K2 : Hid (Blk q1 w.heap.size 113 #[.int .i64 0, .int .i64 0, .int .i64 0, .int .i64 0, .string ⟨#[]⟩, .string ⟨#[]⟩, .slice none 0 0]) := K1.out.drew.since c1; have B2 : Hid (Below w.heap.size w q1) := bel_trans B1.out ⟨c1.os, c1.tape, c1.output, c1.size, c1.block⟩; clear c1))
    have x0 : q2.cell? ⟨w.heap.size, 0, none⟩ = some (.int .i64 0) := K3.out.cell 0
    have x1 : q2.cell? ⟨w.heap.size, 1, none⟩ = some (.int .i64 0) := K3.out.cell 1
    have x2 : q2.cell? ⟨w.heap.size, 2, none⟩ = some (.int .i64 0) := K3.out.cell 2
    have x3 : q2.cell? ⟨w.heap.size, 3, none⟩ = some (.int .i64 0) := K3.out.cell 3
    have x4 : q2.cell? ⟨w.heap.size, 4, none⟩ = some (.string ⟨#[]⟩) := K3.out.cell 4
    have x5 : q2.cell? ⟨w.heap.size, 5, none⟩ = some (.string ⟨#[]⟩) := K3.out.cell 5
    have x6 : q2.cell? ⟨w.heap.size, 6, none⟩ = some (.slice none 0 0) := K3.out.cell 6
    have y0 := K3.out.frozen 0
    have y1 := K3.out.frozen 1
    have y2 := K3.out.frozen 2
    have y3 := K3.out.frozen 3
    have y4 := K3.out.frozen 4
    have y5 := K3.out.frozen 5
    have y6 := K3.out.frozen 6
    go_wp2_with fail
    refine bodyPost_ret (v := .tuple #[.agg #[.int .i64 0, .int .i64 0, .int .i64 0, .int .i64 0, .string ⟨#[]⟩, .string ⟨#[]⟩, .slice none 0 0], .string ⟨#[]⟩, .int .i64 13]) ?_ rfl (took_err (E := 13) E.out (by decide) (put7_below B3.out (Nat.le_refl _) (.int .i64 0) (.int .i64 0) (.int .i64 0) (.int .i64 0) (.string ⟨#[]⟩) (.string ⟨#[]⟩) (.slice none 0 0)))
    have c7 := put7_blk (t := 113) K3.out (.int .i64 0) (.int .i64 0) (.int .i64 0) (.int .i64 0) (.string ⟨#[]⟩) (.string ⟨#[]⟩) (.slice none 0 0)
    have c70 := c7.cell 0
    have c71 := c7.cell 1
    have c72 := c7.cell 2
    have c73 := c7.cell 3
    have c74 := c7.cell 4
    have c75 := c7.cell 5
    have c76 := c7.cell 6
    change (results _ _).run _ (put7 q2 w.heap.size (.int .i64 0) (.int .i64 0) (.int .i64 0) (.int .i64 0) (.string ⟨#[]⟩) (.string ⟨#[]⟩) (.slice none 0 0)) = .ok _ (put7 q2 w.heap.size (.int .i64 0) (.int .i64 0) (.int .i64 0) (.int .i64 0) (.string ⟨#[]⟩) (.string ⟨#[]⟩) (.slice none 0 0))
    generalize put7 q2 w.heap.size (.int .i64 0) (.int .i64 0) (.int .i64 0) (.int .i64 0) (.string ⟨#[]⟩) (.string ⟨#[]⟩) (.slice none 0 0) = W7 at c70 c71 c72 c73 c74 c75 c76
    simp [results, Try.results65, go_sem, c70, c71, c72, c73, c74, c75, c76]
  have cl : ¬ (z.length : Int) < Ln := by omega
  obtain ⟨bh, hbh⟩ : ∃ x, x = z.take Ln := ⟨_, rfl⟩
  have bl : bh.length ≤ 65535 := by rw [hbh]; simp; omega
  have HB : Hid (z.take Ln = bh ∧ behL l = bh) := ⟨hbh.symm, by unfold behL; rw [HZ.out, HL.out, hbh]⟩
  clear hbh
  have N6 : Hid (numL ((l.drop 6).take 1) = atL l 6) := num_one l 6 (by omega)
  have N7 : Hid (numL ((l.drop 7).take 1) = atL l 7) := num_one l 7 (by omega)
  obtain ⟨a6, h6⟩ : ∃ x, x = atL l 6 := ⟨_, rfl⟩
  obtain ⟨a7, h7⟩ : ∃ x, x = atL l 7 := ⟨_, rfl⟩
  rw [← h6] at N6
  rw [← h7] at N7
  have TK : Hid (tkOf l = takeC 8 (a6 : Int) bh) := by
    show tkOf l = _
    unfold tkOf
    rw [HB.out.2, h6]
  obtain ⟨s8, e8⟩ : ∃ x, x = (l.drop 8).take 16 := ⟨_, rfl⟩
  obtain ⟨s24, e24⟩ : ∃ x, x = (l.drop 24).take 16 := ⟨_, rfl⟩
  have D8 : (bsL l).extract 8 24 = bsL s8 := by rw [e8]; exact bsL_extract l 8 24
  have D24 : (bsL l).extract 24 40 = bsL s24 := by rw [e24]; exact bsL_extract l 24 40
  obtain ⟨Sh, hSh⟩ : ∃ x, x = W / 1048576 := ⟨_, rfl⟩
  obtain ⟨Cl, hCl⟩ : ∃ x, x = Sh % 256 := ⟨_, rfl⟩
  obtain ⟨Lb, hLb⟩ : ∃ x, x = W % 1048576 := ⟨_, rfl⟩
  have zSh : (W : Int) / 1048576 = (Sh : Int) := by omega
  have EA := and255 Sh (by omega)
  have EB := and20 W W1
  rw [← hCl] at EA
  rw [← hLb] at EB
  have OK : Hid (∀ t : Tk, okHd l t = ⟨(Cl : Int), (Lb : Int), (a7 : Int), t.pro, s8, s24, t.ch⟩) := fun t => by
    unfold okHd
    rw [HW.out.1, e8, e24, h7, hLb, hCl, hSh]
  have H3 : Hid (40 + lenL l ≤ l.length) := by show 40 + lenL l ≤ l.length; rw [HL.out]; omega
  clear h6 h7 e8 e24 hSh hCl hLb h3
  go_enter Try.func65, Try.ntmps65
  go_wp2_with fail
  refine (numat_any l 0 4 _ (by omega) (by omega) (by omega) hl).mono ?_
  rintro e u1 ⟨rfl, b1⟩
  rw [W0.out]
  have K1 : Hid (Blk u1 w.heap.size 113 #[.int .i64 0, .int .i64 0, .int .i64 0, .int .i64 0, .string ⟨#[]⟩, .string ⟨#[]⟩, .slice none 0 0]) := (START.out u1 b1).1
  have B1 : Hid (Below w.heap.size w u1) := (START.out u1 b1).2
  clear b1
  go_wp2_with fail
  go_region_held3 (fun _ => True) (trivial) (first
    | (go_simp; go_at_call 45; refine (cut_ok z Ln _ (by omega)).mono ?_; rintro e q2 ⟨rfl, c2⟩; rw [HB.out.1]; have K3 : Hid (Blk q2 w.heap.size 113 #[.int .i64 0, .int .i64 0, .int .i64 0, .int .i64 0, .string ⟨#[]⟩, .string ⟨#[]⟩, .slice none 0 0]) := K2.out.since c2; have B3 : Hid (Below w.heap.size w q2) := bel_trans B2.out c2; clear c2)
    | (go_simp; go_at_call 78; refine (numat_any l 4 2 _ (by omega) (by omega) (by omega) hl).mono ?_; rintro e q1 ⟨rfl, c1⟩; rw [N4.out]; have K2 : Hid (Blk q1 w.heap.size 113 #[.int .i64 0, .int .i64 0, .int .i64 0, .int .i64 0, .string ⟨#[]⟩, .string ⟨#[]⟩, .slice none 0 0]) := K1.out.drew.since c1; have B2 : Hid (Below w.heap.size w q1) := bel_trans B1.out ⟨c1.os, c1.tape, c1.output, c1.size, c1.block⟩; clear c1))
  go_wp2_with fail
  refine (numat_any l 6 1 _ (by omega) (by omega) (by omega) hl).mono ?_
  rintro e u3 ⟨rfl, b3⟩
  rw [N6.out]
  have K4 : Hid (Blk u3 w.heap.size 113 #[.int .i64 0, .int .i64 0, .int .i64 0, .int .i64 0, .string ⟨#[]⟩, .string ⟨#[]⟩, .slice none 0 0]) := K3.out.since b3
  have B4 : Hid (Below w.heap.size w u3) := bel_trans B3.out b3
  clear b3
  go_wp2_with fail
  refine (chainT_any _ (a6 : Int) bh (by omega)).mono ?_
  rintro e u4 (⟨tn, rfl, b4⟩ | ⟨C, p, r, ao, n, cv, tn, rfl, hC, b4, fr⟩)
  · have E : Hid (takeE l = 15) := take_chain (by omega) H2.out H3.out (TK.out.trans tn)
    have K5 : Hid (Blk u4 w.heap.size 113 #[.int .i64 0, .int .i64 0, .int .i64 0, .int .i64 0, .string ⟨#[]⟩, .string ⟨#[]⟩, .slice none 0 0]) := K4.out.since b4
    have B5 : Hid (Below w.heap.size w u4) := bel_trans B4.out b4
    clear b4 tn
    have x0 : u4.cell? ⟨w.heap.size, 0, none⟩ = some (.int .i64 0) := K5.out.cell 0
    have x1 : u4.cell? ⟨w.heap.size, 1, none⟩ = some (.int .i64 0) := K5.out.cell 1
    have x2 : u4.cell? ⟨w.heap.size, 2, none⟩ = some (.int .i64 0) := K5.out.cell 2
    have x3 : u4.cell? ⟨w.heap.size, 3, none⟩ = some (.int .i64 0) := K5.out.cell 3
    have x4 : u4.cell? ⟨w.heap.size, 4, none⟩ = some (.string ⟨#[]⟩) := K5.out.cell 4
    have x5 : u4.cell? ⟨w.heap.size, 5, none⟩ = some (.string ⟨#[]⟩) := K5.out.cell 5
    have x6 : u4.cell? ⟨w.heap.size, 6, none⟩ = some (.slice none 0 0) := K5.out.cell 6
    have y0 := K5.out.frozen 0
    have y1 := K5.out.frozen 1
    have y2 := K5.out.frozen 2
    have y3 := K5.out.frozen 3
    have y4 := K5.out.frozen 4
    have y5 := K5.out.frozen 5
    have y6 := K5.out.frozen 6
    go_wp2_with fail
    refine bodyPost_ret (v := .tuple #[.agg #[.int .i64 0, .int .i64 0, .int .i64 0, .int .i64 0, .string ⟨#[]⟩, .string ⟨#[]⟩, .slice none 0 0], .string ⟨#[]⟩, .int .i64 15]) ?_ rfl (took_err (E := 15) E.out (by decide) (put7_below B5.out (Nat.le_refl _) (.int .i64 0) (.int .i64 0) (.int .i64 0) (.int .i64 0) (.string ⟨#[]⟩) (.string ⟨#[]⟩) (.slice none 0 0)))
    have c7 := put7_blk (t := 113) K5.out (.int .i64 0) (.int .i64 0) (.int .i64 0) (.int .i64 0) (.string ⟨#[]⟩) (.string ⟨#[]⟩) (.slice none 0 0)
    have c70 := c7.cell 0
    have c71 := c7.cell 1
    have c72 := c7.cell 2
    have c73 := c7.cell 3
    have c74 := c7.cell 4
    have c75 := c7.cell 5
    have c76 := c7.cell 6
    change (results _ _).run _ (put7 u4 w.heap.size (.int .i64 0) (.int .i64 0) (.int .i64 0) (.int .i64 0) (.string ⟨#[]⟩) (.string ⟨#[]⟩) (.slice none 0 0)) = .ok _ (put7 u4 w.heap.size (.int .i64 0) (.int .i64 0) (.int .i64 0) (.int .i64 0) (.string ⟨#[]⟩) (.string ⟨#[]⟩) (.slice none 0 0))
    generalize put7 u4 w.heap.size (.int .i64 0) (.int .i64 0) (.int .i64 0) (.int .i64 0) (.string ⟨#[]⟩) (.string ⟨#[]⟩) (.slice none 0 0) = W7 at c70 c71 c72 c73 c74 c75 c76
    simp [results, Try.results65, go_sem, c70, c71, c72, c73, c74, c75, c76]
  · have K5 : Hid (Blk u4 w.heap.size 113 #[.int .i64 0, .int .i64 0, .int .i64 0, .int .i64 0, .string ⟨#[]⟩, .string ⟨#[]⟩, .slice none 0 0]) := K4.out.since b4
    have B5 : Hid (Below w.heap.size w u4) := bel_trans B4.out b4
    have TD : Hid (takeE l = 0 ∧ hdOf l = ⟨(Cl : Int), (Lb : Int), (a7 : Int), p, s8, s24, C⟩ ∧ bodyOf l = r) := by
      obtain ⟨d1, d2, d3⟩ := take_done (by omega) H2.out H3.out (TK.out.trans tn)
      exact ⟨d1, by rw [d2, OK.out], d3⟩
    have CH : Hid (ChAt u4 (.slice ao n cv) C ∧ ∀ a, ao = some a → a.block ≠ w.heap.size) := ⟨hC, fun a e => by have h1 := fr a e; have h2 := K4.out.lt; omega⟩
    clear b4 tn hC fr
    go_wp2_with fail
    go_region_held3 (fun _ => True) (trivial) (first
      | (go_simp; go_at_call 78; refine (numat_any l 7 1 _ (by omega) (by omega) (by omega) hl).mono ?_; rintro e q3 ⟨rfl, c3⟩; rw [N7.out]; have K6 : Hid (Blk q3 w.heap.size 113 #[.int .i64 0, .int .i64 0, .int .i64 0, .int .i64 0, .string ⟨#[]⟩, .string ⟨#[]⟩, .slice none 0 0]) := K5.out.drew.since c3; have B6 : Hid (Below w.heap.size w q3) := bel_trans B5.out ⟨c3.os, c3.tape, c3.output, c3.size, c3.block⟩; have CH2 : Hid (ChAt q3 (.slice ao n cv) C) := CH.out.1.keep (keep_of_below ⟨c3.os, c3.tape, c3.output, c3.size, c3.block⟩); have x0 : q3.cell? ⟨w.heap.size, 0, none⟩ = some (.int .i64 0) := K6.out.cell 0; have x1 : q3.cell? ⟨w.heap.size, 1, none⟩ = some (.int .i64 0) := K6.out.cell 1; have x2 : q3.cell? ⟨w.heap.size, 2, none⟩ = some (.int .i64 0) := K6.out.cell 2; have x3 : q3.cell? ⟨w.heap.size, 3, none⟩ = some (.int .i64 0) := K6.out.cell 3; have x4 : q3.cell? ⟨w.heap.size, 4, none⟩ = some (.string ⟨#[]⟩) := K6.out.cell 4; have x5 : q3.cell? ⟨w.heap.size, 5, none⟩ = some (.string ⟨#[]⟩) := K6.out.cell 5; have x6 : q3.cell? ⟨w.heap.size, 6, none⟩ = some (.slice none 0 0) := K6.out.cell 6; have y0 := K6.out.frozen 0; have y1 := K6.out.frozen 1; have y2 := K6.out.frozen 2; have y3 := K6.out.frozen 3; have y4 := K6.out.frozen 4; have y5 := K6.out.frozen 5; have y6 := K6.out.frozen 6; clear c3))
    all_goals go_wp2_with fail
    refine bodyPost_ret (v := .tuple #[.agg #[.int .i64 (Cl : Int), .int .i64 (Lb : Int), .int .i64 (a7 : Int), .int .i64 p, .string (bsL s8), .string (bsL s24), .slice ao n cv], .string (bsL r), .int .i64 0]) ?_ rfl ⟨_, _, _, _, _, _, C, ao, n, cv, r, 0, rfl, ⟨TD.out.2.1, TD.out.2.2, TD.out.1, by obtain ⟨_, _, _, _, e, _⟩ := CH.out.1; cases e; rfl⟩, ch_other CH2.out CH.out.2 (fun q hq => put7_other _ hq (.int .i64 (Cl : Int)) (.int .i64 (Lb : Int)) (.int .i64 (a7 : Int)) (.int .i64 p) (.string (bsL s8)) (.string (bsL s24)) (.slice ao n cv)), put7_below B6.out (Nat.le_refl _) (.int .i64 (Cl : Int)) (.int .i64 (Lb : Int)) (.int .i64 (a7 : Int)) (.int .i64 p) (.string (bsL s8)) (.string (bsL s24)) (.slice ao n cv)⟩
    have c7 := put7_blk (t := 113) K6.out (.int .i64 (Cl : Int)) (.int .i64 (Lb : Int)) (.int .i64 (a7 : Int)) (.int .i64 p) (.string (bsL s8)) (.string (bsL s24)) (.slice ao n cv)
    have c70 := c7.cell 0
    have c71 := c7.cell 1
    have c72 := c7.cell 2
    have c73 := c7.cell 3
    have c74 := c7.cell 4
    have c75 := c7.cell 5
    have c76 := c7.cell 6
    change (results _ _).run _ (put7 q3 w.heap.size (.int .i64 (Cl : Int)) (.int .i64 (Lb : Int)) (.int .i64 (a7 : Int)) (.int .i64 p) (.string (bsL s8)) (.string (bsL s24)) (.slice ao n cv)) = .ok _ (put7 q3 w.heap.size (.int .i64 (Cl : Int)) (.int .i64 (Lb : Int)) (.int .i64 (a7 : Int)) (.int .i64 p) (.string (bsL s8)) (.string (bsL s24)) (.slice ao n cv))
    generalize put7 q3 w.heap.size (.int .i64 (Cl : Int)) (.int .i64 (Lb : Int)) (.int .i64 (a7 : Int)) (.int .i64 p) (.string (bsL s8)) (.string (bsL s24)) (.slice ao n cv) = W7 at c70 c71 c72 c73 c74 c75 c76
    simp [results, Try.results65, go_sem, c70, c71, c72, c73, c74, c75, c76]
end Go.Proofs.Yticopigpgaomjaa.L7
