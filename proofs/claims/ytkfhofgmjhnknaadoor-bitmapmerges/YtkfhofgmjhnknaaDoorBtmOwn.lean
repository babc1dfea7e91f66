
/-
  Rows of a call's own: Clone, copied of layer 13 (bitmap): what they answer.
-/
import Derived.Test.YtkfhofgmjhnknaaDoorBtmMem
import Derived.Test.YtkfhofgmjhnknaaDoorHeldKit
import Derived.Lib.SliceRun
namespace Go.Proofs.YtkfhofgmjhnknaaDoor
open Go.RowKit Fm Bl Bm L2 Go.Deep
set_option linter.unusedVariables false

/-- Bits in a row that is known. -/
def RowB (w : World) (g n : Nat) (z : Nat → Bool) : Prop := ∃ cur, Blk w g 4 cur ∧ ∀ i, i < n → cur[i]? = some (.bool (z i))
theorem RowB.cell {w : World} {g n : Nat} {z : Nat → Bool} (h : RowB w g n z) {i : Nat} (hi : i < n) : w.cell? ⟨g, i, none⟩ = some (.bool (z i)) := by
  obtain ⟨cur, h1, h2⟩ := h
  rw [h1.cell i]; exact h2 i hi
theorem RowB.frozen {w : World} {g n : Nat} {z : Nat → Bool} (h : RowB w g n z) (i : Nat) : w.frozen? ⟨g, i, none⟩ = false := by
  obtain ⟨cur, h1, h2⟩ := h
  exact h1.frozen i
theorem RowB.lt {w : World} {g n : Nat} {z : Nat → Bool} (h : RowB w g n z) : g < w.heap.size := by
  obtain ⟨cur, h1, h2⟩ := h
  exact h1.lt
theorem RowB.of {w w' : World} {g n : Nat} {z : Nat → Bool} (h : RowB w g n z) (e : w'.heap[g]? = w.heap[g]?) : RowB w' g n z := by
  obtain ⟨cur, h1, h2⟩ := h
  exact ⟨cur, h1.of e, h2⟩
theorem RowB.other {w : World} {g n : Nat} {z : Nat → Bool} (h : RowB w g n z) {a : Addr} (ha : g ≠ a.block) (v : Value) : RowB (w.setCell a v) g n z := h.of (Below.heap_setCell w a v g ha)
theorem RowB.since {w w' : World} {g n : Nat} {z : Nat → Bool} (h : RowB w g n z) (b : Below w.heap.size w w') : RowB w' g n z := h.of (b.block g h.lt)
theorem RowB.set {w : World} {g n : Nat} {z : Nat → Bool} (h : RowB w g n z) (p : Nat) (x : Bool) : RowB (w.setCell ⟨g, p, none⟩ (.bool x)) g n (fun i => if i = p then x else z i) := by
  obtain ⟨cur, h1, h2⟩ := h
  refine ⟨_, h1.set p (.bool x), fun i hi => ?_⟩
  have hz : i < cur.size := by
    rcases Nat.lt_or_ge i cur.size with hl | hl
    · exact hl
    · have := h2 i hi
      rw [Array.getElem?_eq_none hl] at this
      cases this
  rw [Array.getElem?_setIfInBounds]
  by_cases e : p = i
  · subst e
    simp [hz]
  · rw [if_neg e]
    show cur[i]? = some (Value.bool (if i = p then x else z i))
    rw [if_neg (fun (y : i = p) => e y.symm)]
    exact h2 i hi
theorem RowB.congr {w : World} {g n : Nat} {z y : Nat → Bool} (h : RowB w g n z) (e : ∀ i, i < n → z i = y i) : RowB w g n y := by
  obtain ⟨cur, h1, h2⟩ := h
  exact ⟨cur, h1, fun i hi => by rw [← e i hi]; exact h2 i hi⟩
theorem RowB.bits {w : World} {g n cap : Nat} {z : Nat → Bool} (h : RowB w g n z) (hc : n ≤ cap) : BitsI w (.slice (some ⟨g, 0, none⟩) n cap) n z :=
  ⟨_, cap, g, 0, rfl, hc, fun _ => rfl, fun i hi => by rw [Nat.zero_add]; exact h.cell hi⟩
/-- What a copy of bits is. -/
def Cloned (w : World) (n : Nat) (B : Nat → Bool) (e : Ending) (w' : World) : Prop :=
  ∃ A cap g, e = .returned (.slice A n cap) ∧ n ≤ cap ∧ (0 < n → A = some ⟨g, 0, none⟩ ∧ w.heap.size ≤ g ∧ g < w'.heap.size ∧ RowB w' g n B) ∧ Below w.heap.size w w'
theorem cloned_of {w w' : World} {v : Value} {n : Nat} {B : Nat → Bool} (h : w'.ownsRow w.heap.size 4 1 v n ((List.range n).map fun i => Value.bool (B i))) (b : Below w.heap.size w w') : Cloned w n B (.returned v) w' := by
  rcases h.2 with ⟨rfl, rfl⟩ | ⟨g, cap, cur, rfl, hb, hg, hn, _, _, hx⟩
  · exact ⟨none, 0, 0, rfl, Nat.le_refl _, fun h => by omega, b⟩
  · have hk : Blk w' g 4 cur := hg
    refine ⟨_, cap, g, rfl, hn, fun _ => ⟨rfl, hb, hk.lt, cur, hk, fun i hi => ?_⟩, b⟩
    have e := h.cellAt (j := i) (by omega)
    rw [← hk.cell i, e]
    simp [hi]
set_option maxHeartbeats 2000000 in
theorem clone_any (w : World) (v : Value) (n : Nat) (B : Nat → Bool) (h : BitsI w v n B) (hn : n ≤ 100000) : Calls Tryd.prog 34 #[v] w (Cloned w n B) := by
  obtain ⟨A, cap, b, o, rfl, h2, h3, h4⟩ := h
  obtain ⟨i4, hi, hz0, hz1, hz2⟩ := info4'
  have HI : Hid (Tryd.prog.info? 4 = some i4 ∧ i4.zero = some (.bool false) ∧ i4.size = 1 ∧ i4.bytes = 1) := ⟨hi, hz0, hz1, hz2⟩
  clear hi hz0 hz1 hz2
  have q : ∀ (w : World) (a : Option Addr) (n c n' c' : Nat), (binOp .eql 33 (.slice a n c) (.slice none n' c')).run Tryd.prog w = .ok (.bool a.isNone) w := fun w a n c n' c' => Lib.run_eql_slice_nil w _ _ a n c n' c' Tryd.underlying33
  by_cases h0 : n = 0
  · subst h0
    clear h3 h4
    cases A with
    | none =>
      go_enter Tryd.func34, Tryd.ntmps34
      go_wp2
      go_ret
      exact ⟨none, 0, 0, rfl, Nat.le_refl _, fun h => by omega, Below.refl _ _⟩
    | some a =>
      go_enter Tryd.func34, Tryd.ntmps34
      go_wp2_with (at_builtin; refine wpList_append_own _ rfl _ _ 33 rfl w.heap.size 4 i4 (.bool false) 1 1 Tryd.underlying33 HI.out.1 HI.out.2.1 HI.out.2.2.1 HI.out.2.2.2 rfl (by decide) _ _ _ rfl (World.ownsRow_made w #[] 0 (Nat.le_refl _) (Nat.zero_le _) rfl) a 0 cap [] rfl rfl (by intro j u hj; simp at hj) (by intro u hu; cases hu) (by unfold maxLen; omega) (by omega) (by simp) ?_)
      intro v' w1 hown hgrow hnil
      go_wp2
      go_ret
      exact cloned_of (by simpa using hown) (((Below.refl _ w).alloc (Nat.le_refl _) _).grown hgrow (by simp) (by intro k hk; simp [Value.ownBlock] at hk; omega))
  · obtain rfl := h3 (by omega)
    have A4 : Hid (∀ i, i < n → w.cell? ⟨b, o + i, none⟩ = some (.bool (B i))) := h4
    clear h3 h4
    go_enter Tryd.func34, Tryd.ntmps34
    go_wp2_with (at_builtin; refine wpList_append_own _ rfl _ _ 33 rfl w.heap.size 4 i4 (.bool false) 1 1 Tryd.underlying33 HI.out.1 HI.out.2.1 HI.out.2.2.1 HI.out.2.2.2 rfl (by decide) _ _ _ rfl (World.ownsRow_made w #[] 0 (Nat.le_refl _) (Nat.zero_le _) rfl) ⟨b, o, none⟩ n cap ((List.range n).map fun i => Value.bool (B i)) rfl ?qc1 ?qc2 ?qc3 ?qc4 ?qc5 ?qc6 ?_)
    case qc1 => simp
    case qc2 =>
      intro j u hj
      have hjn : j < n := by
        have := (List.getElem?_eq_some_iff.1 hj).1
        simpa using this
      have e : ((List.range n).map fun i => Value.bool (B i))[j]? = some (Value.bool (B j)) := by simp [hjn]
      rw [e] at hj
      rw [Addr.add_lit, ← hj, ← A4.out j hjn]
      exact World.cell?_alloc_lt w _ _ (World.block_lt_of_cell? _ _ (A4.out j hjn))
    case qc3 => intro u hu; obtain ⟨x, _, rfl⟩ := List.mem_map.1 hu; rfl
    case qc4 => unfold maxLen; omega
    case qc5 => omega
    case qc6 => simp
    intro v' w1 hown hgrow hnil
    go_wp2
    go_ret
    exact cloned_of (by simpa using hown) (((Below.refl _ w).alloc (Nat.le_refl _) _).grown hgrow (by simp) (by intro k hk; simp [Value.ownBlock] at hk; omega))

/-- A table of the call's own whose first k rows are there: block b, its rows in blocks G i, none below B. -/
structure TabB (w : World) (B b R k : Nat) (L : Nat → Nat) (A : Nat → Option Addr) (G C : Nat → Nat) (Z : Nat → Nat → Bool) : Prop where
  top : w.rowIs b 33 R (fun i => if i < k then .slice (A i) (L i) (C i) else .slice none 0 0)
  own : B ≤ b
  row : ∀ i, i < k → L i ≤ C i ∧ (0 < L i → A i = some ⟨G i, 0, none⟩ ∧ B ≤ G i ∧ G i ≠ b ∧ RowB w (G i) (L i) (Z i))
  apart : ∀ i j, i < k → j < k → 0 < L i → 0 < L j → G i = G j → i = j
theorem TabB.lt {w : World} {B b R k : Nat} {L : Nat → Nat} {A : Nat → Option Addr} {G C : Nat → Nat} {Z : Nat → Nat → Bool} (h : TabB w B b R k L A G C Z) : b < w.heap.size := by
  obtain ⟨c, q1, _⟩ := h.top
  exact Blk.lt (t := 33) (cs := c) q1
theorem TabB.of {w w' : World} {B b R k : Nat} {L : Nat → Nat} {A : Nat → Option Addr} {G C : Nat → Nat} {Z : Nat → Nat → Bool} (h : TabB w B b R k L A G C Z) (e : ∀ q, B ≤ q → q < w.heap.size → w'.heap[q]? = w.heap[q]?) : TabB w' B b R k L A G C Z :=
  ⟨h.top.of_block (e b h.own h.lt), h.own, fun i hi => ⟨(h.row i hi).1, fun z => ⟨((h.row i hi).2 z).1, ((h.row i hi).2 z).2.1, ((h.row i hi).2 z).2.2.1, ((h.row i hi).2 z).2.2.2.of (e _ ((h.row i hi).2 z).2.1 ((h.row i hi).2 z).2.2.2.lt)⟩⟩, h.apart⟩
theorem TabB.since {w w' : World} {B b R k : Nat} {L : Nat → Nat} {A : Nat → Option Addr} {G C : Nat → Nat} {Z : Nat → Nat → Bool} (h : TabB w B b R k L A G C Z) (s : Below w.heap.size w w') : TabB w' B b R k L A G C Z := h.of fun q _ hq => s.block q hq
theorem TabB.other {w : World} {B b R k : Nat} {L : Nat → Nat} {A : Nat → Option Addr} {G C : Nat → Nat} {Z : Nat → Nat → Bool} (h : TabB w B b R k L A G C Z) {a : Addr} (ha : a.block < B) (v : Value) : TabB (w.setCell a v) B b R k L A G C Z := h.of fun q hq _ => Below.heap_setCell w a v q (by omega)
theorem TabB.alloc {w : World} {B b R k : Nat} {L : Nat → Nat} {A : Nat → Option Addr} {G C : Nat → Nat} {Z : Nat → Nat → Bool} (h : TabB w B b R k L A G C Z) (o : Obj) : TabB (w.alloc o) B b R k L A G C Z := h.of fun q _ hq => Below.heap_alloc w o q hq
theorem TabB.drew {w : World} {B b R k : Nat} {L : Nat → Nat} {A : Nat → Option Addr} {G C : Nat → Nat} {Z : Nat → Nat → Bool} (h : TabB w B b R k L A G C Z) : TabB w.drew B b R k L A G C Z := h.of fun _ _ _ => rfl
theorem TabB.congr {w : World} {B b R k : Nat} {L : Nat → Nat} {A : Nat → Option Addr} {G C : Nat → Nat} {Z Y : Nat → Nat → Bool} (h : TabB w B b R k L A G C Z) (e : ∀ i j, i < k → j < L i → Z i j = Y i j) : TabB w B b R k L A G C Y :=
  ⟨h.top, h.own, fun i hi => ⟨(h.row i hi).1, fun z => ⟨((h.row i hi).2 z).1, ((h.row i hi).2 z).2.1, ((h.row i hi).2 z).2.2.1, ((h.row i hi).2 z).2.2.2.congr fun j hj => e i j hi hj⟩⟩, h.apart⟩
/-- A row more. -/
theorem TabB.more {w w2 : World} {B b R k g cap : Nat} {A2 : Option Addr} {L : Nat → Nat} {A : Nat → Option Addr} {G C : Nat → Nat} {Z : Nat → Nat → Bool} (h : TabB w B b R k L A G C Z) (hB : B ≤ w.heap.size) (s : Below w.heap.size w w2) (hc : L k ≤ cap) (hr : 0 < L k → A2 = some ⟨g, 0, none⟩ ∧ w.heap.size ≤ g ∧ RowB w2 g (L k) (Z k)) :
    TabB (w2.setCell ⟨b, k, none⟩ (.slice A2 (L k) cap)) B b R (k + 1) L (fun i => if i = k then A2 else A i) (fun i => if i = k then g else G i) (fun i => if i = k then cap else C i) Z := by
  have h2 := h.since s
  have lt := h.lt
  refine ⟨(h2.top.set k _).congr fun j hj => ?_, h.own, fun i hi => ?_, fun i j hi hj zi zj e => ?_⟩
  · by_cases e : j = k
    · subst e; simp
    · by_cases e2 : j < k
      · simp [e, e2, show j < k + 1 by omega]
      · simp [e, e2, show ¬ j < k + 1 by omega]
  · by_cases e : i = k
    · subst e
      simp only [if_pos]
      refine ⟨hc, fun z => ?_⟩
      obtain ⟨r1, r2, r3⟩ := hr z
      exact ⟨r1, by omega, by omega, r3.other (a := ⟨b, i, none⟩) (by show g ≠ b; omega) _⟩
    · simp only [if_neg e]
      obtain ⟨r1, r2⟩ := h2.row i (by omega)
      exact ⟨r1, fun z => ⟨(r2 z).1, (r2 z).2.1, (r2 z).2.2.1, (r2 z).2.2.2.other (a := ⟨b, k, none⟩) (r2 z).2.2.1 _⟩⟩
  · by_cases e1 : i = k
    · by_cases e2 : j = k
      · omega
      · simp only [if_pos e1, if_neg e2] at e
        have := ((h.row j (by omega)).2 zj).2.2.2.lt
        have := (hr (by rw [← e1]; exact zi)).2.1
        omega
    · by_cases e2 : j = k
      · simp only [if_neg e1, if_pos e2] at e
        have := ((h.row i (by omega)).2 zi).2.2.2.lt
        have := (hr (by rw [← e2]; exact zj)).2.1
        omega
      · simp only [if_neg e1, if_neg e2] at e
        exact h.apart i j (by omega) (by omega) zi zj e
theorem TabB.cell {w : World} {B b R k : Nat} {L : Nat → Nat} {A : Nat → Option Addr} {G C : Nat → Nat} {Z : Nat → Nat → Bool} (h : TabB w B b R k L A G C Z) {i : Nat} (hi : i < R) (hk : i < k) : w.cell? ⟨b, i, none⟩ = some (.slice (A i) (L i) (C i)) := by
  have := World.rowIs.cell h.top (i := i) hi
  simpa [hk] using this
theorem TabB.next {w : World} {B b R k : Nat} {L : Nat → Nat} {A : Nat → Option Addr} {G C : Nat → Nat} {Z : Nat → Nat → Bool} (h : TabB w B b R k L A G C Z) (hi : k < R) : w.cell? ⟨b, k, none⟩ = some (.slice none 0 0) := by
  have := World.rowIs.cell h.top (i := k) hi
  simpa using this
theorem TabB.rows {w : World} {B b R cap : Nat} {L : Nat → Nat} {A : Nat → Option Addr} {G C : Nat → Nat} {Z : Nat → Nat → Bool} (h : TabB w B b R R L A G C Z) (hc : R ≤ cap) : RowsB w (.slice (some ⟨b, 0, none⟩) R cap) R L Z :=
  ⟨_, cap, b, 0, fun i => .slice (A i) (L i) (C i), rfl, hc, fun _ => rfl, fun r hr => ⟨by rw [Nat.zero_add]; exact h.cell hr hr, (A r), C r, G r, 0, rfl, (h.row r hr).1, fun z => ((h.row r hr).2 z).1, fun i hi => by rw [Nat.zero_add]; exact ((h.row r hr).2 (by omega)).2.2.2.cell hi⟩⟩
/-- A bit of a table is written. -/
theorem TabB.set {w : World} {B b R k : Nat} {L : Nat → Nat} {A : Nat → Option Addr} {G C : Nat → Nat} {Z : Nat → Nat → Bool} (h : TabB w B b R k L A G C Z) {i : Nat} (hi : i < k) (hl : 0 < L i) (p : Nat) (x : Bool) :
    TabB (w.setCell ⟨G i, p, none⟩ (.bool x)) B b R k L A G C (fun r j => if r = i then (if j = p then x else Z r j) else Z r j) := by
  obtain ⟨r0, r5⟩ := h.row i hi
  obtain ⟨r1, r2, r3, r4⟩ := r5 hl
  refine ⟨h.top.setOther (by show b ≠ G i; omega) _, h.own, fun r hr => ⟨(h.row r hr).1, fun z => ?_⟩, h.apart⟩
  obtain ⟨q1, q2, q3, q4⟩ := (h.row r hr).2 z
  refine ⟨q1, q2, q3, ?_⟩
  by_cases e : r = i
  · subst e
    simp only [if_pos]
    exact r4.set p x
  · simp only [if_neg e]
    exact q4.other (a := ⟨G i, p, none⟩) (fun x => e (h.apart r i hr hi z hl x)) _
theorem tab_start (w : World) (R : Nat) (L : Nat → Nat) (A : Nat → Option Addr) (G C : Nat → Nat) (Z : Nat → Nat → Bool) : TabB (w.alloc (.cells (madeCells #[.slice none 0 0] R) 33)) w.heap.size w.heap.size R 0 L A G C Z :=
  ⟨(World.rowIs_made w _ R 33).congr (fun j _ => by simp), Nat.le_refl _, fun i hi => by omega, fun i j hi => by omega⟩
theorem grow_made (w : World) (n : Nat) : RowB (w.alloc (.cells (madeCells #[.bool false] n) 4)) w.heap.size n (fun _ => false) := by
  obtain ⟨c, q1, q2, q3⟩ := World.rowIs_made w (.bool false) n 4
  exact ⟨c, q1, fun i hi => q3 i hi⟩
/-- Rows that the call copied. -/
def CopiedM (w : World) (R : Nat) (L : Nat → Nat) (Z : Nat → Nat → Bool) (e : Ending) (w' : World) : Prop := ∃ b A G C, e = .returned (.slice (some ⟨b, 0, none⟩) R R) ∧ TabB w' w.heap.size b R R L A G C Z ∧ Below w.heap.size w w'
set_option maxHeartbeats 3200000 in
theorem mcopied_any (w : World) (v : Value) (R : Nat) (L : Nat → Nat) (Z : Nat → Nat → Bool) (h : RowsB w v R L Z) (hR : R ≤ 100) (hn : ∀ i, i < R → L i ≤ 1000) : Calls Tryd.prog 25 #[v] w (CopiedM w R L Z) := by
  obtain ⟨A, cap, b, o, rfl, hc, hr⟩ := h.read
  have RW : Hid (RowsCells w A R b o L Z) := hr
  have HL : Hid (∀ i, i < R → L i ≤ 1000) := hn
  have hmk : (Instr.makeSlice 23 (.int .i64 (R : Int)) (.int .i64 (R : Int))).run Tryd.prog w = .ok (.slice (some ⟨w.heap.size, 0, none⟩) R R) (w.alloc (.cells (madeCells #[.slice none 0 0] R) 33)) := run_make_full (P := Tryd.prog) 23 33 (.slice none 0 0) 24 Tryd.underlying23 info33 rfl .i64 .i64 R (by omega) (by omega) w
  have B1 : Hid (Below w.heap.size w (w.alloc (.cells (madeCells #[.slice none 0 0] R) 33))) := bel_alloc _ _
  have T1 : Hid (TabB (w.alloc (.cells (madeCells #[.slice none 0 0] R) 33)) w.heap.size w.heap.size R 0 L (fun _ => none) (fun _ => 0) (fun _ => 0) Z) := tab_start w R L _ _ _ Z
  clear h hr hn
  go_enter Tryd.func25, Tryd.ntmps25
  go_wp2_with fail
  clear hmk
  go_loopg [11] R (fun gk i wr => ∃ k : Nat, (gk = R - k ∧ k ≤ R ∧ Below w.heap.size w wr ∧ ∃ A G C, TabB wr w.heap.size w.heap.size R k L A G C Z) ∧ i = .int .i64 (k : Int))
  case atStart => exact ⟨0, ⟨rfl, by omega, B1.out, _, _, _, T1.out⟩, rfl⟩
  case round =>
    clear B1 T1
    obtain ⟨k, ⟨hg, hk, hB, AA, G, C, hT⟩, rfl⟩ := hrel
    have HK : Hid (gk = R - k ∧ Below w.heap.size w wr ∧ TabB wr w.heap.size w.heap.size R k L AA G C Z) := ⟨hg, hB, hT⟩
    by_cases hlt : k < R
    · obtain ⟨rfl, A', cap', b', o', ck, lk, fk, gk'⟩ := RW.out k hlt
      have hl := HL.out k hlt
      have CL : Hid (Calls Tryd.prog 34 #[.slice A' (L k) cap'] wr (Cloned wr (L k) (Z k))) := clone_any wr _ (L k) (Z k) ⟨A', cap', b', o', rfl, lk, fk, fun j hj => keep_of_below hB _ _ (gk' j hj)⟩ (by omega)
      have ck := keep_of_below hB _ _ ck
      obtain ⟨n, hn⟩ : ∃ n, n = L k := ⟨_, rfl⟩
      have HN : Hid (n = L k) := hn
      rw [← hn] at ck CL
      have bk : (k : Int) < (R : Int) := by omega
      have b0 : (0 : Int) ≤ (k : Int) := by omega
      clear hg hB hT lk fk gk' hn hl
      go_wp2_with fail
      refine CL.out.mono ?_
      rintro e u2 ⟨A2, cap2, g, rfl, le, row, b2⟩
      have T2 : Hid (TabB (u2.setCell ⟨w.heap.size, k, none⟩ (.slice A2 n cap2)) w.heap.size w.heap.size R (k + 1) L (fun i => if i = k then A2 else AA i) (fun i => if i = k then g else G i) (fun i => if i = k then cap2 else C i) Z) := by
        have e := HN.out
        subst e
        exact HK.out.2.2.more HK.out.2.1.size b2 le fun z => ⟨(row z).1, (row z).2.1, (row z).2.2.2⟩
      have BB : Hid (Below w.heap.size w (u2.setCell ⟨w.heap.size, k, none⟩ (.slice A2 n cap2))) := (bel_trans HK.out.2.1 b2).setCell (p := ⟨w.heap.size, k, none⟩) (Nat.le_refl _) _
      have c2 : u2.cell? ⟨w.heap.size, k, none⟩ = some (.slice none 0 0) := (HK.out.2.2.since b2).next hlt
      have f2 : u2.frozen? ⟨w.heap.size, k, none⟩ = false := World.rowIs.frozen (HK.out.2.2.since b2).top k
      clear row b2 le ck CL
      go_wp2_with fail
      go_roundg (R - (k + 1))
      case measure => have := HK.out.1; omega
      case rel => exact ⟨k + 1, ⟨rfl, by omega, BB.out, _, _, _, T2.out⟩, by go_num⟩
    · have e : k = R := by omega
      have HE : Hid (k = R) := e
      have b1 : ¬ (k : Int) < (R : Int) := by omega
      clear e hg hB hT hlt
      go_wp2_with fail
      go_ret
      have t := HK.out.2.2
      rw [HE.out] at t
      exact ⟨_, AA, G, C, rfl, t, HK.out.2.1⟩
end Go.Proofs.YtkfhofgmjhnknaaDoor
