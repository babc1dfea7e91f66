
/-
  Rows of a call's own: Clone, copied, New of layer 11 (least): what they answer.
-/
import Derived.Test.YtihealembikkiaaLstRead
import Derived.Lib.SliceRun
namespace Go.Proofs.Ytihealembikkiaa
open Go.RowKit Fm Bl Lt L2 Go.Deep
set_option linter.unusedVariables false
set_option maxRecDepth 20000

/-- Numbers in a row that is known. -/
def RowN (w : World) (g n : Nat) (z : Nat → Int) : Prop := ∃ cur, Blk w g 3 cur ∧ ∀ i, i < n → cur[i]? = some (.int .i64 (z i))
theorem RowN.cell {w : World} {g n : Nat} {z : Nat → Int} (h : RowN w g n z) {i : Nat} (hi : i < n) : w.cell? ⟨g, i, none⟩ = some (.int .i64 (z i)) := by
  obtain ⟨cur, h1, h2⟩ := h
  rw [h1.cell i]; exact h2 i hi
theorem RowN.frozen {w : World} {g n : Nat} {z : Nat → Int} (h : RowN w g n z) (i : Nat) : w.frozen? ⟨g, i, none⟩ = false := by
  obtain ⟨cur, h1, h2⟩ := h
  exact h1.frozen i
theorem RowN.lt {w : World} {g n : Nat} {z : Nat → Int} (h : RowN w g n z) : g < w.heap.size := by
  obtain ⟨cur, h1, h2⟩ := h
  exact h1.lt
theorem RowN.of {w w' : World} {g n : Nat} {z : Nat → Int} (h : RowN w g n z) (e : w'.heap[g]? = w.heap[g]?) : RowN w' g n z := by
  obtain ⟨cur, h1, h2⟩ := h
  exact ⟨cur, h1.of e, h2⟩
theorem RowN.other {w : World} {g n : Nat} {z : Nat → Int} (h : RowN w g n z) {a : Addr} (ha : g ≠ a.block) (v : Value) : RowN (w.setCell a v) g n z := h.of (Below.heap_setCell w a v g ha)
theorem RowN.since {w w' : World} {g n : Nat} {z : Nat → Int} (h : RowN w g n z) (b : Below w.heap.size w w') : RowN w' g n z := h.of (b.block g h.lt)
theorem RowN.set {w : World} {g n : Nat} {z : Nat → Int} (h : RowN w g n z) (p : Nat) (x : Int) : RowN (w.setCell ⟨g, p, none⟩ (.int .i64 x)) g n (fun i => if i = p then x else z i) := by
  obtain ⟨cur, h1, h2⟩ := h
  refine ⟨_, h1.set p (.int .i64 x), fun i hi => ?_⟩
  have hz : i < cur.size := by
    rcases Nat.lt_or_ge i cur.size with hl | hl
    · exact hl
    · have := h2 i hi
      rw [Array.getElem?_eq_none hl] at this
      cases this
  rw [Array.getElem?_setIfInBounds]
  by_cases e : p = i
  · subst e
    simp [hz]
  · rw [if_neg e]
    show cur[i]? = some (Value.int .i64 (if i = p then x else z i))
    rw [if_neg (fun (y : i = p) => e y.symm)]
    exact h2 i hi
theorem RowN.congr {w : World} {g n : Nat} {z y : Nat → Int} (h : RowN w g n z) (e : ∀ i, i < n → z i = y i) : RowN w g n y := by
  obtain ⟨cur, h1, h2⟩ := h
  exact ⟨cur, h1, fun i hi => by rw [← e i hi]; exact h2 i hi⟩
theorem RowN.ints {w : World} {g n cap : Nat} {z : Nat → Int} (h : RowN w g n z) (hc : n ≤ cap) : IntsI w (.slice (some ⟨g, 0, none⟩) n cap) n z :=
  ⟨_, cap, g, 0, rfl, hc, fun _ => rfl, fun i hi => by rw [Nat.zero_add]; exact h.cell hi⟩
/-- What a copy of numbers is. -/
def Cloned (w : World) (n : Nat) (B : Nat → Int) (e : Ending) (w' : World) : Prop :=
  ∃ A cap g, e = .returned (.slice A n cap) ∧ n ≤ cap ∧ (0 < n → A = some ⟨g, 0, none⟩ ∧ w.heap.size ≤ g ∧ g < w'.heap.size ∧ RowN w' g n B) ∧ Below w.heap.size w w'
theorem cloned_of {w w' : World} {v : Value} {n : Nat} {B : Nat → Int} (h : w'.ownsRow w.heap.size 3 1 v n ((List.range n).map fun i => Value.int .i64 (B i))) (b : Below w.heap.size w w') : Cloned w n B (.returned v) w' := by
  rcases h.2 with ⟨rfl, rfl⟩ | ⟨g, cap, cur, rfl, hb, hg, hn, _, _, hx⟩
  · exact ⟨none, 0, 0, rfl, Nat.le_refl _, fun h => by omega, b⟩
  · have hk : Blk w' g 3 cur := hg
    refine ⟨_, cap, g, rfl, hn, fun _ => ⟨rfl, hb, hk.lt, cur, hk, fun i hi => ?_⟩, b⟩
    have e := h.cellAt (j := i) (by omega)
    rw [← hk.cell i, e]
    simp [hi]
set_option maxHeartbeats 2000000 in
theorem clone_any (w : World) (v : Value) (n : Nat) (B : Nat → Int) (h : IntsI w v n B) (hn : n ≤ 100000) : Calls Try.prog 81 #[v] w (Cloned w n B) := by
  obtain ⟨A, cap, b, o, rfl, h2, h3, h4⟩ := h
  obtain ⟨i3, hi, hz0, hz1, hz2⟩ := info3'
  have HI : Hid (Try.prog.info? 3 = some i3 ∧ i3.zero = some (.int .i64 0) ∧ i3.size = 1 ∧ i3.bytes = 8) := ⟨hi, hz0, hz1, hz2⟩
  clear hi hz0 hz1 hz2
  have q : ∀ (w : World) (a : Option Addr) (n c n' c' : Nat), (binOp .eql 57 (.slice a n c) (.slice none n' c')).run Try.prog w = .ok (.bool a.isNone) w := fun w a n c n' c' => Lib.run_eql_slice_nil w _ _ a n c n' c' Try.underlying57
  by_cases h0 : n = 0
  · subst h0
    clear h3 h4
    cases A with
    | none =>
      go_enter Try.func81, Try.ntmps81
      go_wp2
      go_ret
      exact ⟨none, 0, 0, rfl, Nat.le_refl _, fun h => by omega, Below.refl _ _⟩
    | some a =>
      go_enter Try.func81, Try.ntmps81
      go_wp2_with (at_builtin; refine wpList_append_own _ rfl _ _ 57 rfl w.heap.size 3 i3 (.int .i64 0) 1 8 Try.underlying57 HI.out.1 HI.out.2.1 HI.out.2.2.1 HI.out.2.2.2 rfl (by decide) _ _ _ rfl (World.ownsRow_made w #[] 0 (Nat.le_refl _) (Nat.zero_le _) rfl) a 0 cap [] rfl rfl (by intro j u hj; simp at hj) (by intro u hu; cases hu) (by unfold maxLen; omega) (by omega) (by simp) ?_)
      intro v' w1 hown hgrow hnil
      go_wp2
      go_ret
      exact cloned_of (by simpa using hown) (((Below.refl _ w).alloc (Nat.le_refl _) _).grown hgrow (by simp) (by intro k hk; simp [Value.ownBlock] at hk; omega))
  · obtain rfl := h3 (by omega)
    have A4 : Hid (∀ i, i < n → w.cell? ⟨b, o + i, none⟩ = some (.int .i64 (B i))) := h4
    clear h3 h4
    go_enter Try.func81, Try.ntmps81
    go_wp2_with (at_builtin; refine wpList_append_own _ rfl _ _ 57 rfl w.heap.size 3 i3 (.int .i64 0) 1 8 Try.underlying57 HI.out.1 HI.out.2.1 HI.out.2.2.1 HI.out.2.2.2 rfl (by decide) _ _ _ rfl (World.ownsRow_made w #[] 0 (Nat.le_refl _) (Nat.zero_le _) rfl) ⟨b, o, none⟩ n cap ((List.range n).map fun i => Value.int .i64 (B i)) rfl ?qc1 ?qc2 ?qc3 ?qc4 ?qc5 ?qc6 ?_)
    case qc1 => simp
    case qc2 =>
      intro j u hj
      have hjn : j < n := by
        have := (List.getElem?_eq_some_iff.1 hj).1
        simpa using this
      have e : ((List.range n).map fun i => Value.int .i64 (B i))[j]? = some (Value.int .i64 (B j)) := by simp [hjn]
      rw [e] at hj
      rw [Addr.add_lit, ← hj, ← A4.out j hjn]
      exact World.cell?_alloc_lt w _ _ (World.block_lt_of_cell? _ _ (A4.out j hjn))
    case qc3 => intro u hu; obtain ⟨x, _, rfl⟩ := List.mem_map.1 hu; rfl
    case qc4 => unfold maxLen; omega
    case qc5 => omega
    case qc6 => simp
    intro v' w1 hown hgrow hnil
    go_wp2
    go_ret
    exact cloned_of (by simpa using hown) (((Below.refl _ w).alloc (Nat.le_refl _) _).grown hgrow (by simp) (by intro k hk; simp [Value.ownBlock] at hk; omega))

/-- A table of the call's own whose first k rows are there: block b, its rows in blocks G i, none below B. -/
structure TabIn (w : World) (B b R n k : Nat) (G C : Nat → Nat) (Z : Nat → Nat → Int) : Prop where
  top : w.rowIs b 57 R (fun i => if i < k then .slice (some ⟨G i, 0, none⟩) n (C i) else .slice none 0 0)
  own : B ≤ b
  row : ∀ i, i < k → B ≤ G i ∧ G i ≠ b ∧ n ≤ C i ∧ RowN w (G i) n (Z i)
  apart : ∀ i j, i < k → j < k → G i = G j → i = j
theorem TabIn.lt {w : World} {B b R n k : Nat} {G C : Nat → Nat} {Z : Nat → Nat → Int} (h : TabIn w B b R n k G C Z) : b < w.heap.size := by
  obtain ⟨c, q1, _⟩ := h.top
  exact Blk.lt (t := 57) (cs := c) q1
theorem TabIn.of {w w' : World} {B b R n k : Nat} {G C : Nat → Nat} {Z : Nat → Nat → Int} (h : TabIn w B b R n k G C Z) (e : ∀ q, B ≤ q → q < w.heap.size → w'.heap[q]? = w.heap[q]?) : TabIn w' B b R n k G C Z :=
  ⟨h.top.of_block (e b h.own h.lt), h.own, fun i hi => ⟨(h.row i hi).1, (h.row i hi).2.1, (h.row i hi).2.2.1, (h.row i hi).2.2.2.of (e _ (h.row i hi).1 (h.row i hi).2.2.2.lt)⟩, h.apart⟩
theorem TabIn.since {w w' : World} {B b R n k : Nat} {G C : Nat → Nat} {Z : Nat → Nat → Int} (h : TabIn w B b R n k G C Z) (s : Below w.heap.size w w') : TabIn w' B b R n k G C Z := h.of fun q _ hq => s.block q hq
theorem TabIn.other {w : World} {B b R n k : Nat} {G C : Nat → Nat} {Z : Nat → Nat → Int} (h : TabIn w B b R n k G C Z) {a : Addr} (ha : a.block < B) (v : Value) : TabIn (w.setCell a v) B b R n k G C Z := h.of fun q hq _ => Below.heap_setCell w a v q (by omega)
theorem TabIn.alloc {w : World} {B b R n k : Nat} {G C : Nat → Nat} {Z : Nat → Nat → Int} (h : TabIn w B b R n k G C Z) (o : Obj) : TabIn (w.alloc o) B b R n k G C Z := h.of fun q _ hq => Below.heap_alloc w o q hq
theorem TabIn.drew {w : World} {B b R n k : Nat} {G C : Nat → Nat} {Z : Nat → Nat → Int} (h : TabIn w B b R n k G C Z) : TabIn w.drew B b R n k G C Z := h.of fun _ _ _ => rfl
theorem TabIn.congr {w : World} {B b R n k : Nat} {G C : Nat → Nat} {Z Y : Nat → Nat → Int} (h : TabIn w B b R n k G C Z) (e : ∀ i j, i < k → j < n → Z i j = Y i j) : TabIn w B b R n k G C Y :=
  ⟨h.top, h.own, fun i hi => ⟨(h.row i hi).1, (h.row i hi).2.1, (h.row i hi).2.2.1, (h.row i hi).2.2.2.congr fun j hj => e i j hi hj⟩, h.apart⟩
/-- A row more. -/
theorem TabIn.more {w w2 : World} {B b R n k g cap : Nat} {G C : Nat → Nat} {Z : Nat → Nat → Int} (h : TabIn w B b R n k G C Z) (hB : B ≤ w.heap.size) (s : Below w.heap.size w w2) (hg : w.heap.size ≤ g) (hc : n ≤ cap) (hr : RowN w2 g n (Z k)) :
    TabIn (w2.setCell ⟨b, k, none⟩ (.slice (some ⟨g, 0, none⟩) n cap)) B b R n (k + 1) (fun i => if i = k then g else G i) (fun i => if i = k then cap else C i) Z := by
  have h2 := h.since s
  have lt := h.lt
  refine ⟨(h2.top.set k _).congr fun j hj => ?_, h.own, fun i hi => ?_, fun i j hi hj e => ?_⟩
  · by_cases e : j = k
    · subst e; simp
    · by_cases e2 : j < k
      · simp [e, e2, show j < k + 1 by omega]
      · simp [e, e2, show ¬ j < k + 1 by omega]
  · by_cases e : i = k
    · subst e
      simp only [if_pos]
      exact ⟨by omega, by omega, hc, hr.other (a := ⟨b, i, none⟩) (by show g ≠ b; omega) _⟩
    · simp only [if_neg e]
      obtain ⟨r1, r2, r3, r4⟩ := h2.row i (by omega)
      exact ⟨r1, r2, r3, r4.other (a := ⟨b, k, none⟩) r2 _⟩
  · by_cases e1 : i = k
    · by_cases e2 : j = k
      · omega
      · simp only [if_pos e1, if_neg e2] at e
        have := (h.row j (by omega)).2.2.2.lt
        omega
    · by_cases e2 : j = k
      · simp only [if_neg e1, if_pos e2] at e
        have := (h.row i (by omega)).2.2.2.lt
        omega
      · simp only [if_neg e1, if_neg e2] at e
        exact h.apart i j (by omega) (by omega) e
theorem TabIn.cell {w : World} {B b R n k : Nat} {G C : Nat → Nat} {Z : Nat → Nat → Int} (h : TabIn w B b R n k G C Z) {i : Nat} (hi : i < R) (hk : i < k) : w.cell? ⟨b, i, none⟩ = some (.slice (some ⟨G i, 0, none⟩) n (C i)) := by
  have := World.rowIs.cell h.top (i := i) hi
  simpa [hk] using this
theorem TabIn.next {w : World} {B b R n k : Nat} {G C : Nat → Nat} {Z : Nat → Nat → Int} (h : TabIn w B b R n k G C Z) (hi : k < R) : w.cell? ⟨b, k, none⟩ = some (.slice none 0 0) := by
  have := World.rowIs.cell h.top (i := k) hi
  simpa using this
theorem TabIn.rows {w : World} {B b R n cap : Nat} {G C : Nat → Nat} {Z : Nat → Nat → Int} (h : TabIn w B b R n R G C Z) (hc : R ≤ cap) : RowsI w (.slice (some ⟨b, 0, none⟩) R cap) R (fun _ => n) Z :=
  ⟨_, cap, b, 0, fun i => .slice (some ⟨G i, 0, none⟩) n (C i), rfl, hc, fun _ => rfl, fun r hr => ⟨by rw [Nat.zero_add]; exact h.cell hr hr, (h.row r hr).2.2.2.ints (h.row r hr).2.2.1⟩⟩
/-- A number of a table is written. -/
theorem TabIn.set {w : World} {B b R n k : Nat} {G C : Nat → Nat} {Z : Nat → Nat → Int} (h : TabIn w B b R n k G C Z) {i : Nat} (hi : i < k) (p : Nat) (x : Int) :
    TabIn (w.setCell ⟨G i, p, none⟩ (.int .i64 x)) B b R n k G C (fun r j => if r = i then (if j = p then x else Z r j) else Z r j) := by
  obtain ⟨r1, r2, r3, r4⟩ := h.row i hi
  refine ⟨h.top.setOther (by show b ≠ G i; omega) _, h.own, fun r hr => ?_, h.apart⟩
  obtain ⟨q1, q2, q3, q4⟩ := h.row r hr
  refine ⟨q1, q2, q3, ?_⟩
  by_cases e : r = i
  · subst e
    simp only [if_pos]
    exact r4.set p x
  · simp only [if_neg e]
    exact q4.other (a := ⟨G i, p, none⟩) (fun x => e (h.apart r i hr hi x)) _
theorem tab_start (w : World) (R n : Nat) (G C : Nat → Nat) (Z : Nat → Nat → Int) : TabIn (w.alloc (.cells (madeCells #[.slice none 0 0] R) 57)) w.heap.size w.heap.size R n 0 G C Z :=
  ⟨(World.rowIs_made w _ R 57).congr (fun j _ => by simp), Nat.le_refl _, fun i hi => by omega, fun i j hi => by omega⟩
def Copied (w : World) (R n : Nat) (Z : Nat → Nat → Int) (e : Ending) (w' : World) : Prop := ∃ b G C, e = .returned (.slice (some ⟨b, 0, none⟩) R R) ∧ TabIn w' w.heap.size b R n R G C Z ∧ Below w.heap.size w w'
set_option maxHeartbeats 3200000 in
theorem copied_any (w : World) (v : Value) (R n : Nat) (Z : Nat → Nat → Int) (h : RowsI w v R (fun _ => n) Z) (hR : R ≤ 100) (hn0 : 1 ≤ n) (hn : n ≤ 1000) : Calls Try.prog 58 #[v] w (Copied w R n Z) := by
  obtain ⟨A, cap, b, o, rfl, hc, hr⟩ := h.read
  have RW : Hid (RowsCells w A R b o (fun _ => n) Z) := hr
  have hmk : (Instr.makeSlice 24 (.int .i64 (R : Int)) (.int .i64 (R : Int))).run Try.prog w = .ok (.slice (some ⟨w.heap.size, 0, none⟩) R R) (w.alloc (.cells (madeCells #[.slice none 0 0] R) 57)) := run_make_full (P := Try.prog) 24 57 (.slice none 0 0) 24 Try.underlying24 info33 rfl .i64 .i64 R (by omega) (by omega) w
  have B1 : Hid (Below w.heap.size w (w.alloc (.cells (madeCells #[.slice none 0 0] R) 57))) := bel_alloc _ _
  have T1 : Hid (TabIn (w.alloc (.cells (madeCells #[.slice none 0 0] R) 57)) w.heap.size w.heap.size R n 0 (fun _ => 0) (fun _ => 0) Z) := tab_start w R n _ _ Z
  clear h hr
  go_enter Try.func58, Try.ntmps58
  go_wp2_with fail
  clear hmk
  go_loopg [11] R (fun gk i wr => ∃ k : Nat, (gk = R - k ∧ k ≤ R ∧ Below w.heap.size w wr ∧ ∃ G C, TabIn wr w.heap.size w.heap.size R n k G C Z) ∧ i = .int .i64 (k : Int))
  case atStart => exact ⟨0, ⟨rfl, by omega, B1.out, _, _, T1.out⟩, rfl⟩
  case round =>
    clear B1 T1
    obtain ⟨k, ⟨hg, hk, hB, G, C, hT⟩, rfl⟩ := hrel
    have HK : Hid (gk = R - k ∧ Below w.heap.size w wr ∧ TabIn wr w.heap.size w.heap.size R n k G C Z) := ⟨hg, hB, hT⟩
    by_cases hlt : k < R
    · obtain ⟨rfl, A', cap', b', o', ck, lk, fk, gk'⟩ := RW.out k hlt
      have CL : Hid (Calls Try.prog 81 #[.slice A' n cap'] wr (Cloned wr n (Z k))) := clone_any wr _ n (Z k) ⟨A', cap', b', o', rfl, lk, fk, fun j hj => keep_of_below hB _ _ (gk' j hj)⟩ (by omega)
      have ck := keep_of_below hB _ _ ck
      have bk : (k : Int) < (R : Int) := by omega
      have b0 : (0 : Int) ≤ (k : Int) := by omega
      clear hg hB hT lk fk gk'
      go_wp2_with fail
      refine CL.out.mono ?_
      rintro e u2 ⟨A2, cap2, g, rfl, le, row, b2⟩
      obtain ⟨rfl, r2, r3, r4⟩ := row (by omega)
      have T2 : Hid (TabIn (u2.setCell ⟨w.heap.size, k, none⟩ (.slice (some ⟨g, 0, none⟩) n cap2)) w.heap.size w.heap.size R n (k + 1) (fun i => if i = k then g else G i) (fun i => if i = k then cap2 else C i) Z) := HK.out.2.2.more HK.out.2.1.size b2 r2 le r4
      have BB : Hid (Below w.heap.size w (u2.setCell ⟨w.heap.size, k, none⟩ (.slice (some ⟨g, 0, none⟩) n cap2))) := (bel_trans HK.out.2.1 b2).setCell (p := ⟨w.heap.size, k, none⟩) (Nat.le_refl _) _
      have c2 : u2.cell? ⟨w.heap.size, k, none⟩ = some (.slice none 0 0) := (HK.out.2.2.since b2).next hlt
      have f2 : u2.frozen? ⟨w.heap.size, k, none⟩ = false := World.rowIs.frozen (HK.out.2.2.since b2).top k
      clear row b2 r2 r3 r4 le ck CL
      go_wp2_with fail
      go_roundg (R - (k + 1))
      case measure => have := HK.out.1; omega
      case rel => exact ⟨k + 1, ⟨rfl, by omega, BB.out, _, _, T2.out⟩, by go_num⟩
    · have e : k = R := by omega
      have HE : Hid (k = R) := e
      have b1 : ¬ (k : Int) < (R : Int) := by omega
      clear e hg hB hT hlt
      go_wp2_with fail
      go_ret
      have t := HK.out.2.2
      rw [HE.out] at t
      exact ⟨_, G, C, rfl, t, HK.out.2.1⟩
end Go.Proofs.Ytihealembikkiaa
