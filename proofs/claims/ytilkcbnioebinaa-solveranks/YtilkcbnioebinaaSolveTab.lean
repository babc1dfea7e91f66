/-
  What solve.modulo makes: a table of the call's own, its numbers below the prime.
-/
import Derived.Test.YtilkcbnioebinaaSolveRow
namespace Go.Proofs.Ytilkcbnioebinaa
open Go.RowKit Fm Go.Deep
attribute [local go_sem ↓] Go.wp_at_zero Go.wp_at_succ

/-- 'make([]T, n, n + 1)', T of one cell. -/
theorem run_make_one {P : Program} (t e : TypeId) (z : Value) (bytes : Nat) (ht : P.underlying t = some (.slice e)) (hinfo : (P.info? e).map (fun i => (i.zero, i.size, i.bytes)) = some (some z, 1, bytes)) (hz1 : z.cells = #[z])
    (kl kc : IntKind) (n : Nat) (hbytes : bytes * (n + 1) ≤ 281474976710656) (h63 : n < 9223372036854775807) (w : World) :
    (Instr.makeSlice t (.int kl (n : Int)) (.int kc ((n : Int) + 1))).run P w = .ok (.slice (some ⟨w.heap.size, 0, none⟩) n (n + 1)) (w.alloc (.cells (madeCells #[z] (n + 1)) e)) := by
  obtain ⟨i, hi, hzz⟩ := Option.map_eq_some_iff.1 hinfo
  simp only [Prod.mk.injEq] at hzz
  obtain ⟨hz, hs, hb⟩ := hzz
  have hb' : (i.bytes : Int) * ((n : Int) + 1) ≤ 281474976710656 := by
    have h : ((i.bytes * (n + 1) : Nat) : Int) ≤ 281474976710656 := by rw [hb]; omega
    rwa [Int.natCast_mul, Int.natCast_add] at h
  have hr := run_make (P := P) w t e i z ht hi hz kl kc n ((n : Int) + 1) (by omega) (by omega) hb' (by omega)
  have e1 : ((n : Int) + 1).toNat = n + 1 := by omega
  simp only [Int.toNat_natCast, e1, hs, Nat.mul_one, hz1] at hr
  exact hr

/-- A row of the call's own whose first W numbers are known. -/
def RowUpto (w : World) (g W K : Nat) (z : Nat → Int) : Prop := ∃ z', RowOwn w g K z' ∧ ∀ j, j < W → z' j = z j
theorem RowUpto.congr {w : World} {g W K : Nat} {z y : Nat → Int} (h : RowUpto w g W K z) (e : ∀ j, j < W → z j = y j) : RowUpto w g W K y := by
  obtain ⟨z', h1, h2⟩ := h
  exact ⟨z', h1, fun j hj => (h2 j hj).trans (e j hj)⟩
theorem RowUpto.of_block {w w' : World} {g W K : Nat} {z : Nat → Int} (h : RowUpto w g W K z) (e : w'.heap[g]? = w.heap[g]?) : RowUpto w' g W K z := by
  obtain ⟨z', h1, h2⟩ := h
  exact ⟨z', World.rowIs.of_block h1 e, h2⟩
theorem RowUpto.cell {w : World} {g W K : Nat} {z : Nat → Int} (h : RowUpto w g W K z) (hW : W ≤ K) {j : Nat} (hj : j < W) : w.cell? ⟨g, j, none⟩ = some (.int .u64 (z j)) := by
  obtain ⟨z', h1, h2⟩ := h
  rw [← h2 j hj]
  exact World.rowIs.cell h1 (by omega)
theorem toOne_upto (w : World) (g W K c : Nat) (z : Nat → Int) (h : RowUpto w g W K z) (hW : W ≤ K) (hK : K ≤ 1000) (hc : c < W) (hz : ∀ j, j < W → 0 ≤ z j ∧ z j < 2305843009213693951) (hne : z c ≠ 0) :
    Calls Try.prog 31 #[.slice (some ⟨g, 0, none⟩) W K, .int .i64 (c : Int)] w fun e w' => e = .returned (.tuple #[]) ∧ Only g w w' ∧ RowUpto w' g W K (fun j => mulF (z j) (powF (z c) 2305843009213693949)) := by
  obtain ⟨z', h1, h2⟩ := h
  refine (toOne_any w g W K c z' h1 hW hK hc (fun j hj => by rw [h2 j hj]; exact hz j hj) (by rw [h2 c hc]; exact hne)).mono ?_
  rintro e w' ⟨rfl, ho, hr⟩
  exact ⟨rfl, ho, _, hr, fun j hj => by rw [if_pos hj, h2 j hj, h2 c hc]⟩
theorem takeAway_upto (w : World) (g h W K : Nat) (z y : Nat → Int) (f : Int) (hz : RowUpto w g W K z) (hy : RowUpto w h W K y) (hgh : g ≠ h) (hW : W ≤ K) (hK : K ≤ 1000) (uf : U f) (uz : ∀ j, j < W → U (z j)) (uy : ∀ j, j < W → U (y j)) :
    Calls Try.prog 32 #[.slice (some ⟨g, 0, none⟩) W K, .slice (some ⟨h, 0, none⟩) W K, .int .u64 f] w fun e w' => e = .returned (.tuple #[]) ∧ Only g w w' ∧ RowUpto w' g W K (fun j => subF (z j) (mulF f (y j))) := by
  obtain ⟨z', h1, h2⟩ := hz
  obtain ⟨y', k1, k2⟩ := hy
  refine (takeAway_any w g h W K z' y' f h1 k1 hgh hW hK uf (fun j hj => by rw [h2 j hj]; exact uz j hj) (fun j hj => by rw [k2 j hj]; exact uy j hj)).mono ?_
  rintro e w' ⟨rfl, ho, hr⟩
  exact ⟨rfl, ho, _, hr, fun j hj => by rw [if_pos hj, h2 j hj, k2 j hj]⟩

/-- A table of the call's own: block b, its rows in blocks G i, none below B. -/
structure Tbl (w : World) (B b R W K : Nat) (G : Nat → Nat) (Z : Nat → Nat → Int) : Prop where
  top : w.rowIs b 30 R (fun i => .slice (some ⟨G i, 0, none⟩) W K)
  own : B ≤ b
  row : ∀ i, i < R → B ≤ G i ∧ G i ≠ b ∧ RowUpto w (G i) W K (Z i)
  apart : ∀ i k, i < R → k < R → G i = G k → i = k

def modZ (C : Nat) (Z : Nat → Nat → Int) : Nat → Nat → Int := fun i j => if j < C then oF (Z i j) else 0
def topF (N C i : Nat) : Nat → Value := fun j => if j < i then .slice (some ⟨N + 1 + j, 0, none⟩) C (C + 1) else .slice none 0 0
structure MOuter (w wr : World) (R C i : Nat) (Z : Nat → Nat → Int) : Prop where
  since : Below w.heap.size w wr
  size : wr.heap.size = w.heap.size + 1 + i
  top : wr.rowIs w.heap.size 30 R (topF w.heap.size C i)
  done : ∀ j, j < i → RowOwn wr (w.heap.size + 1 + j) (C + 1) (modZ C Z j)
structure MInner (w wr : World) (R C i c : Nat) (Z : Nat → Nat → Int) : Prop where
  since : Below w.heap.size w wr
  size : wr.heap.size = w.heap.size + 1 + i + 1
  top : wr.rowIs w.heap.size 30 R (topF w.heap.size C (i + 1))
  done : ∀ j, j < i → RowOwn wr (w.heap.size + 1 + j) (C + 1) (modZ C Z j)
  cur : RowOwn wr (w.heap.size + 1 + i) (C + 1) (fun q => if q < c then oF (Z i q) else 0)
theorem mouter_start (w : World) (R C : Nat) (Z : Nat → Nat → Int) : MOuter w (w.alloc (.cells (madeCells #[.slice none 0 0] R) 30)) R C 0 Z :=
  ⟨(Below.refl _ _).alloc (Nat.le_refl _) _, by simp, (World.rowIs_made w _ R 30).congr (fun j _ => by simp [topF]), fun j hj => absurd hj (Nat.not_lt_zero _)⟩
theorem minner_start {w wr : World} {R C i : Nat} {Z : Nat → Nat → Int} (h : MOuter w wr R C i Z) :
    MInner w ((wr.alloc (.cells (madeCells #[.int .u64 0] (C + 1)) 36)).setCell ⟨w.heap.size, i, none⟩ (.slice (some ⟨w.heap.size + 1 + i, 0, none⟩) C (C + 1))) R C i 0 Z := by
  have hnew := World.rowIs_made wr (.int .u64 0) (C + 1) 36
  rw [h.size] at hnew
  refine ⟨(h.since.alloc (by rw [h.size]; omega) _).setCell (Nat.le_refl _) _, by simp [h.size, World.setCell], ((h.top.alloc _).set i _).congr (fun j _ => ?_), fun j hj => (World.rowIs.alloc (h.done j hj) _).setOther (by show w.heap.size + 1 + j ≠ w.heap.size; omega) _,
    (hnew.setOther (by show w.heap.size + 1 + i ≠ w.heap.size; omega) _).congr (fun i _ => by simp)⟩
  simp only [topF]
  by_cases e : j = i
  · subst e; simp
  · rw [if_neg e]
    by_cases hlt : j < i
    · rw [if_pos hlt, if_pos (by omega)]
    · rw [if_neg hlt, if_neg (by omega)]
theorem minner_step {w wi : World} {R C i c : Nat} {Z : Nat → Nat → Int} (h : MInner w wi R C i c Z) :
    MInner w (wi.setCell ⟨w.heap.size + 1 + i, c, none⟩ (.int .u64 (oF (Z i c)))).drew R C i (c + 1) Z :=
  ⟨(h.since.setCell (by show w.heap.size ≤ w.heap.size + 1 + i; omega) _).drew, by simp [h.size, World.setCell, World.drew], (h.top.setOther (by show w.heap.size ≠ w.heap.size + 1 + i; omega) _).drew,
    fun j hj => (World.rowIs.setOther (h.done j hj) (by show w.heap.size + 1 + j ≠ w.heap.size + 1 + i; omega) _).drew, row_step (F := fun q => oF (Z i q)) (z := fun _ => 0) h.cur⟩
theorem minner_done {w wi : World} {R C i : Nat} {Z : Nat → Nat → Int} (h : MInner w wi R C i C Z) : MOuter w wi R C (i + 1) Z :=
  ⟨h.since, by rw [h.size]; omega, h.top, fun j hj => by
    by_cases e : j = i
    · subst e
      exact h.cur
    · exact h.done j (by omega)⟩
theorem mouter_tbl {w wr : World} {R C : Nat} {Z : Nat → Nat → Int} (h : MOuter w wr R C R Z) : Tbl wr w.heap.size w.heap.size R C (C + 1) (fun i => w.heap.size + 1 + i) (modZ C Z) :=
  ⟨h.top.congr fun i hi => by simp [topF, hi], Nat.le_refl _, fun i hi => ⟨by omega, by omega, _, h.done i hi, fun _ _ => rfl⟩, fun i k _ _ e => by omega⟩

set_option maxHeartbeats 3200000 in
theorem modulo_any (w : World) (v : Value) (R C : Nat) (L : Nat → Nat) (Z : Nat → Nat → Int) (h : RowsAt w v R L Z) (hR : R ≤ 100) (hC : C ≤ 100) (hL : ∀ r, r < R → L r = C) :
    Calls Try.prog 22 #[v] w fun e w' => e = .returned (.slice (some ⟨w.heap.size, 0, none⟩) R R) ∧ MOuter w w' R C R Z := by
  obtain ⟨A, cap, b, o, V, rfl, h2, h3, h4⟩ := h
  have cell : Hid (∀ r, r < R → A = some ⟨b, o, none⟩ ∧ b < w.heap.size ∧ ∃ A' cap' b' o', w.cell? ⟨b, o + r, none⟩ = some (.slice A' C cap') ∧ ∀ c, c < C → A' = some ⟨b', o', none⟩ ∧ b' < w.heap.size ∧ w.cell? ⟨b', o' + c, none⟩ = some (.int .u64 (Z r c)) ∧ U (Z r c)) := fun r hr => by
    obtain ⟨c1, A', cap', b', o', e, _, e2, i⟩ := h4 r hr
    rw [hL r hr] at e e2 i
    exact ⟨h3 (by omega), World.block_lt_of_cell? _ _ c1, A', cap', b', o', by rw [c1, e], fun c hc => ⟨e2 (by omega), World.block_lt_of_cell? _ _ (i c hc).1, (i c hc).1, (i c hc).2⟩⟩
  clear h3 h4 hL
  have hmk22 := run_make_row' (P := Try.prog) 22 30 (.slice none 0 0) 24 Try.underlying22 info30 rfl .i64 .i64 R (by omega) (by omega)
  go_enter Try.func22, Try.ntmps22
  go_wp2_with fail
  clear hmk22
  go_loopg [13] R (fun g i wr => ∃ k : Nat, (g = R - k ∧ k ≤ R ∧ MOuter w wr R C k Z) ∧ i = .int .i64 (k : Int))
  case atStart => exact ⟨0, ⟨rfl, by omega, mouter_start w R C Z⟩, rfl⟩
  case round =>
    obtain ⟨k, ⟨hg, hk, hO⟩, rfl⟩ := hrel
    have HK : Hid (gk = R - k ∧ MOuter w wr R C k Z) := ⟨hg, hO⟩
    by_cases hz : k < R
    · obtain ⟨rfl, hb, A', cap', b', o', c1, c2⟩ := cell.out k hz
      have CC : Hid (∀ c, c < C → A' = some ⟨b', o', none⟩ ∧ b' < w.heap.size ∧ w.cell? ⟨b', o' + c, none⟩ = some (.int .u64 (Z k c)) ∧ U (Z k c)) := c2
      have d1 : wr.cell? ⟨b, o + k, none⟩ = some (.slice A' C cap') := by rw [hO.since.cell (p := ⟨b, o + k, none⟩) hb]; exact c1
      have hmk30 := run_make_one (P := Try.prog) 30 36 (.int .u64 0) 8 Try.underlying30 info36 rfl .i64 .i64 C (by omega) (by omega)
      have hst1 : ∀ o, (wr.alloc o).cell? ⟨w.heap.size, k, none⟩ = some (topF w.heap.size C k k) := fun o => (hO.top.alloc o).cell hz
      have hst2 : ∀ o, (wr.alloc o).frozen? ⟨w.heap.size, k, none⟩ = false := fun o => (hO.top.alloc o).frozen k
      have hsz := hO.size
      have hI0 := minner_start hO
      have HI : Hid (MInner w ((wr.alloc (.cells (madeCells #[.int .u64 0] (C + 1)) 36)).setCell ⟨w.heap.size, k, none⟩ (.slice (some ⟨w.heap.size + 1 + k, 0, none⟩) C (C + 1))) R C k 0 Z) := hI0
      clear hg hO c1 c2 hI0
      go_wp2_with fail
      clear hmk30 hst1 hst2 hsz d1
      go_loopg [29] C (fun g i wi => ∃ c : Nat, (g = C - c ∧ c ≤ C ∧ MInner w wi R C k c Z) ∧ i = .int .i64 (c : Int))
      case atStart => exact ⟨0, ⟨rfl, by omega, HI.out⟩, rfl⟩
      case round =>
        obtain ⟨c, ⟨hg, hc, hI⟩, rfl⟩ := hrel
        have HJ : Hid (gk = C - c ∧ MInner w wr R C k c Z) := ⟨hg, hI⟩
        clear HI
        by_cases hlt : c < C
        · obtain ⟨rfl, hb', e1, e2⟩ := CC.out c hlt
          have d1 : wr.cell? ⟨b', o' + c, none⟩ = some (.int .u64 (Z k c)) := by rw [hI.since.cell (p := ⟨b', o' + c, none⟩) hb']; exact e1
          have d2 : wr.cell? ⟨w.heap.size, k, none⟩ = some (.slice (some ⟨w.heap.size + 1 + k, 0, none⟩) C (C + 1)) := by simpa [topF] using hI.top.cell hz
          have d3 : wr.cell? ⟨w.heap.size + 1 + k, c, none⟩ = some (.int .u64 0) := by have := World.rowIs.cell hI.cur (i := c) (by omega); simpa using this
          have d4 : wr.frozen? ⟨w.heap.size + 1 + k, c, none⟩ = false := World.rowIs.frozen hI.cur c
          have b1 : (c : Int) < (C : Int) := by omega
          have b2 : (k : Int) < (R : Int) := by omega
          clear hg hI e1
          go_wp2_with fail
          go_region_with (go_at_call 25; refine (of_any _ _ e2).mono ?_; rintro e w'' ⟨rfl, rfl⟩)
          all_goals go_wp2_with fail
          all_goals go_roundg (C - (c + 1))
          all_goals first | (have := HJ.out.1; omega) | exact ⟨c + 1, ⟨rfl, by omega, minner_step HJ.out.2⟩, by go_num⟩
        · have e : c = C := by omega
          have HE : Hid (c = C) := e
          clear e hg hI
          go_wp2_with fail
          go_roundg (R - (k + 1))
          case measure => have := HK.out.1; omega
          case rel => exact ⟨k + 1, ⟨rfl, by omega, minner_done (by have := HJ.out.2; rw [HE.out] at this; exact this)⟩, by go_num⟩
    · have e : k = R := by omega
      have HE : Hid (k = R) := e
      clear e hg hO
      go_wp2_with fail
      go_ret
      exact ⟨rfl, by have := HK.out.2; rw [HE.out] at this; exact this⟩

end Go.Proofs.Ytilkcbnioebinaa
