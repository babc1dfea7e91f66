/-
  What solve.Solve answers.
-/
import Derived.Test.YtilkcbnioebinaaSolveTimes
import Derived.Deep.RegionLaw
namespace Go.Proofs.Ytilkcbnioebinaa
open Go.RowKit Fm Go.Deep
attribute [local go_sem ↓] Go.wp_at_zero Go.wp_at_succ

def wideZ (C : Nat) (Z : Nat → Nat → Int) (T : Nat → Int) : Nat → Nat → Int := fun i j => if j < C then Z i j else T i
/-- The table while numbers are laid behind its rows: k of them are. -/
def appZ (C : Nat) (Z : Nat → Nat → Int) (T : Nat → Int) (k : Nat) : Nat → Nat → Int := fun i j => if j < C then oF (Z i j) else if i < k then oF (T i) else 0
structure SApp (w wr : World) (R C k : Nat) (Z : Nat → Nat → Int) (T : Nat → Int) : Prop where
  since : Below w.heap.size w wr
  size : w.heap.size + 1 + R ≤ wr.heap.size
  top : wr.rowIs w.heap.size 30 R (fun i => .slice (some ⟨w.heap.size + 1 + i, 0, none⟩) (if i < k then C + 1 else C) (C + 1))
  row : ∀ i, i < R → RowOwn wr (w.heap.size + 1 + i) (C + 1) (appZ C Z T k i)
theorem sapp_start {w wr : World} {R C : Nat} {Z : Nat → Nat → Int} (T : Nat → Int) (h : MOuter w wr R C R Z) : SApp w wr R C 0 Z T :=
  ⟨h.since, by rw [h.size]; omega, h.top.congr fun i hi => by simp [topF, hi], fun i hi => World.rowIs.congr (h.done i hi) fun j _ => by simp [modZ, appZ]⟩
theorem sapp_done {w wr : World} {R C : Nat} {Z : Nat → Nat → Int} {T : Nat → Int} (h : SApp w wr R C R Z T) : Tbl wr w.heap.size w.heap.size R (C + 1) (C + 1) (fun i => w.heap.size + 1 + i) (appZ C Z T R) :=
  ⟨h.top.congr fun i hi => by simp [hi], Nat.le_refl _, fun i hi => ⟨by omega, by omega, _, h.row i hi, fun _ _ => rfl⟩, fun i k _ _ e => by omega⟩
theorem app_rng (R C : Nat) (Z : Nat → Nat → Int) (T : Nat → Int) : Rng R (C + 1) (appZ C Z T R) := fun i hi j hj => by
  unfold appZ
  split
  · exact ⟨oF_nn _, oF_lt _⟩
  · first | (rw [if_pos hi]; exact ⟨oF_nn _, oF_lt _⟩) | exact ⟨oF_nn _, oF_lt _⟩
theorem app_mut (R C : Nat) (Z : Nat → Nat → Int) (T : Nat → Int) : Mut R (C + 1) (wideZ C Z T) (appZ C Z T R) := Mut.alike fun r hr j hj => by
  unfold appZ wideZ
  split
  · exact oF_oF _
  · first | (rw [if_pos hr]; exact oF_oF _) | exact oF_oF _

theorem new_one (w : World) (x : Value) : ∀ (j : Nat) (u : Value), [x][j]? = some u → (w.alloc (.cells #[x] 36)).drew.cell? ((⟨w.heap.size, 0, none⟩ : Addr).add j) = some u :=
  World.news_of_block (w := (w.alloc (.cells #[x] 36)).drew) (cs := #[x]) (t := 36) (fr := (0, 0)) (blk_alloc_new w _)
theorem one_cell (n : Int) : ∀ u ∈ [Value.int .u64 n], u.oneCell' = true := fun u hu => by
  rw [List.mem_singleton.1 hu]; rfl
theorem setCells_one (w : World) (b n : Nat) (x : Value) : w.setCells b (0 + n * 1) [x] = w.setCell ⟨b, n, none⟩ x := by
  rw [Nat.zero_add, Nat.mul_one]; rfl
theorem spare_one {w : World} {g K C : Nat} {z : Nat → Int} (h : RowOwn w g K z) (hC : C < K) (o : Obj) :
    ∀ j, j < [Value.int .u64 0].length → ((w.alloc o).drew.cell? ⟨g, 0 + C * 1 + j, none⟩).isSome = true ∧ (w.alloc o).drew.frozen? ⟨g, 0 + C * 1 + j, none⟩ = false := fun j hj => by
  have e : 0 + C * 1 + j = C := by simp at hj; omega
  rw [e]
  have k : (w.alloc o).drew.rowIs g 36 K (fun j => .int .u64 (z j)) := (World.rowIs.alloc h o).drew
  exact ⟨by rw [k.cell hC]; rfl, k.frozen C⟩
theorem SApp.step {w wr : World} {R C k : Nat} {Z : Nat → Nat → Int} {T : Nat → Int} (h : SApp w wr R C k Z T) (hk : k < R) (o : Obj) :
    SApp w (((wr.alloc o).setCell ⟨w.heap.size + 1 + k, C, none⟩ (.int .u64 (oF (T k)))).setCell ⟨w.heap.size, k, none⟩ (.slice (some ⟨w.heap.size + 1 + k, 0, none⟩) (C + 1) (C + 1))).drew R C (k + 1) Z T := by
  refine ⟨(((h.since.alloc (by have := h.size; omega) _).setCell (by show w.heap.size ≤ w.heap.size + 1 + k; omega) _).setCell (Nat.le_refl _) _).drew, by have := h.size; simp [World.setCell, World.drew]; omega,
    ((((h.top.alloc o).setOther (by show w.heap.size ≠ w.heap.size + 1 + k; omega) _).set k _).congr fun i hi => ?_).drew, fun i hi => ?_⟩
  · by_cases e : i = k
    · subst e; simp
    · by_cases e1 : i < k
      · simp [e, e1, show i < k + 1 by omega]
      · simp [e, e1, show ¬ i < k + 1 by omega]
  · have r := World.rowIs.alloc (h.row i hi) o
    by_cases e : i = k
    · subst e
      refine (World.rowIs.drew (World.rowIs.setOther (World.rowIs.set r C _) (by show w.heap.size + 1 + i ≠ w.heap.size; omega) _)).congr fun j hj => ?_
      by_cases ej : j = C
      · subst ej; simp [appZ]
      · have : j < C := by omega
        simp [appZ, ej, this]
    · refine (World.rowIs.drew (World.rowIs.setOther (World.rowIs.setOther r (by show w.heap.size + 1 + i ≠ w.heap.size + 1 + k; omega) _) (by show w.heap.size + 1 + i ≠ w.heap.size; omega) _)).congr fun j hj => ?_
      have : (i < k + 1) = (i < k) := by apply propext; omega
      simp [appZ, this]

/-- The solution while it is copied out. -/
structure Fill (w wr : World) (C k : Nat) (y : Nat → Int) : Prop where
  since : Below w.heap.size w wr
  row : RowOwn wr w.heap.size C (fun i => if i < k then y i else 0)
theorem fill_start (w : World) (C : Nat) (y : Nat → Int) : Fill w (w.alloc (.cells (madeCells #[.int .u64 0] C) 36)) C 0 y :=
  ⟨(Below.refl _ _).alloc (Nat.le_refl _) _, (World.rowIs_made w _ C 36).congr fun i _ => by simp⟩
theorem Fill.step {w wr : World} {C k : Nat} {y : Nat → Int} (h : Fill w wr C k y) : Fill w (wr.setCell ⟨w.heap.size, k, none⟩ (.int .u64 (y k))) C (k + 1) y :=
  ⟨h.since.setCell (Nat.le_refl _) _, row_step (F := y) (z := fun _ => 0) h.row⟩
theorem Fill.done {w wr : World} {C : Nat} {y : Nat → Int} (h : Fill w wr C C y) : RowOwn wr w.heap.size C y := World.rowIs.congr h.row fun i hi => by simp [hi]

theorem Gj.eq {R c n m : Nat} {l : Nat → Nat} {Z : Nat → Nat → Int} (h : Gj R c n l Z) (e : n = m) : Gj R c m l Z := e ▸ h

/-- What Solve tells. -/
def TellsSolve (w : World) (R C : Nat) (Z : Nat → Nat → Int) (T : Nat → Int) (e : Ending) (w' : World) : Prop :=
  (∃ (n k : Nat) (l : Nat → Nat) (Z' : Nat → Nat → Int), e = .returned (.tuple #[.slice none 0 0, .int .i64 6]) ∧ Gj R C n l Z' ∧ Mut R (C + 1) (wideZ C Z T) Z' ∧ Rng R (C + 1) Z' ∧ n ≤ k ∧ k < R ∧ Z' k C ≠ 0 ∧ Below w.heap.size w w') ∨
  (∃ (n : Nat) (l : Nat → Nat) (Z' : Nat → Nat → Int), e = .returned (.tuple #[.slice none 0 0, .int .i64 7]) ∧ Gj R C n l Z' ∧ Mut R (C + 1) (wideZ C Z T) Z' ∧ Rng R (C + 1) Z' ∧ (∀ k, n ≤ k → k < R → Z' k C = 0) ∧ n < C ∧ Below w.heap.size w w') ∨
  (∃ (l : Nat → Nat) (Z' : Nat → Nat → Int) (g : Nat), e = .returned (.tuple #[.slice (some ⟨g, 0, none⟩) C C, .int .i64 0]) ∧ Gj R C C l Z' ∧ Mut R (C + 1) (wideZ C Z T) Z' ∧ Rng R (C + 1) Z' ∧ (∀ k, C ≤ k → k < R → Z' k C = 0) ∧ RowOwn w' g C (fun i => Z' i C) ∧ Below w.heap.size w w' ∧ w.heap.size ≤ g)

set_option maxHeartbeats 800000 in
theorem solve_no (w : World) (v x : Value) (R Lx : Nat) (L : Nat → Nat) (Z : Nat → Nat → Int) (X : Nat → Int) (h : RowsAt w v R L Z) (hx : IntsAt w x Lx X) (hs : ¬ (SysP R L ∧ Lx = R)) :
    Calls Try.prog 14 #[v, x] w fun e w' => e = .returned (.tuple #[.slice none 0 0, .int .i64 1]) ∧ w' = w := by
  have HS : Hid (Calls Try.prog 20 #[v] w (TellsB w (SysP R L))) := sys_any w v R L Z h
  obtain ⟨A, cap, rfl⟩ := h.form
  obtain ⟨Ax, capx, rfl⟩ := hx.form
  clear h hx
  by_cases h1 : SysP R L
  · have hq : ((Lx : Int) == (R : Int)) = false := by
      have : Lx ≠ R := fun e => hs ⟨h1, e⟩
      have : (Lx : Int) ≠ (R : Int) := by omega
      simpa using this
    clear hs
    go_enter Try.func14, Try.ntmps14
    go_wp2_with fail
    refine HS.out.mono ?_
    rintro e w' ⟨B, rfl, hB, rfl⟩
    obtain rfl : B = true := hB.2 h1
    clear hB HS h1
    go_wp2_with fail
    go_ret2
    exact ⟨rfl, rfl⟩
  · go_enter Try.func14, Try.ntmps14
    go_wp2_with fail
    refine HS.out.mono ?_
    rintro e w' ⟨B, rfl, hB, rfl⟩
    obtain rfl : B = false := by
      cases B with
      | false => rfl
      | true => exact absurd (hB.1 rfl) h1
    clear hB HS
    go_wp2_with fail
    go_ret2
    exact ⟨rfl, rfl⟩

set_option maxHeartbeats 6400000 in
theorem solve_yes (w : World) (v x : Value) (R C : Nat) (L : Nat → Nat) (Z : Nat → Nat → Int) (X : Nat → Int) (h : RowsAt w v R L Z) (hx : IntsAt w x R X) (hs : SysP R L) (hC : colsF R L = C) :
    Calls Try.prog 14 #[v, x] w (TellsSolve w R C Z X) := by
  have HS : Hid (Calls Try.prog 20 #[v] w (TellsB w (SysP R L))) := sys_any w v R L Z h
  have hR : R ≤ 32 := hs.1
  have hC' : C ≤ 32 := by have := hs.2.1; omega
  have HM : Hid (Calls Try.prog 22 #[v] w fun e w' => e = .returned (.slice (some ⟨w.heap.size, 0, none⟩) R R) ∧ MOuter w w' R C R Z) := modulo_any w v R C L Z h (by omega) (by omega) fun r hr => by rw [← hC]; exact hs.2.2 r hr
  have HCC : Hid (Calls Try.prog 23 #[v] w fun e w'' => e = .returned (.int .i64 (C : Int)) ∧ w'' = w) := by have := cols_any w v R L Z h; rw [hC] at this; exact this
  obtain ⟨A, cap, rfl⟩ := h.form
  obtain ⟨Ax, capx, bx, ox, rfl, _, x3, x4⟩ := hx
  have xcell : Hid (∀ c, c < R → Ax = some ⟨bx, ox, none⟩ ∧ bx < w.heap.size ∧ w.cell? ⟨bx, ox + c, none⟩ = some (.int .u64 (X c)) ∧ U (X c)) := fun c hc => 
    ⟨x3 (by omega), World.block_lt_of_cell? _ _ (x4 c (by omega)).1, (x4 c (by omega)).1, (x4 c (by omega)).2⟩
  clear h x3 x4 hC
  obtain ⟨i36, hi36, z36, sz36, by36⟩ : ∃ i, Try.prog.info? 36 = some i ∧ i.zero = some (.int .u64 0) ∧ i.size = 1 ∧ i.bytes = 8 := by
    obtain ⟨i, hi, hzz⟩ := Option.map_eq_some_iff.1 info36
    simp only [Prod.mk.injEq] at hzz
    exact ⟨i, hi, hzz⟩
  have HI : Hid (Try.prog.info? 36 = some i36 ∧ i36.size = 1) := ⟨hi36, sz36⟩
  clear hi36 z36 sz36 by36
  go_enter Try.func14, Try.ntmps14
  go_wp2_with fail
  refine HS.out.mono ?_
  rintro e w' ⟨B, rfl, hB, rfl⟩
  obtain rfl : B = true := hB.2 hs
  clear hB HS hs
  go_wp2_with fail
  refine HCC.out.mono ?_
  rintro e w2 ⟨rfl, rfl⟩
  clear HCC
  go_wp2_with fail
  refine HM.out.mono ?_
  rintro e w1 ⟨rfl, hm⟩
  have M : Hid (SApp w2 w1 R C 0 Z X) := sapp_start X hm
  clear HM hm
  go_wp2_with fail
  go_loopg [31] R (fun g i wr => ∃ k : Nat, (g = R - k ∧ k ≤ R ∧ SApp w2 wr R C k Z X) ∧ i = .int .i64 (k : Int))
  case atStart => exact ⟨0, ⟨rfl, by omega, M.out⟩, rfl⟩
  case round =>
    obtain ⟨k, ⟨hg, hk, hO⟩, rfl⟩ := hrel
    have HK : Hid (gk = R - k ∧ SApp w2 wr R C k Z X) := ⟨hg, hO⟩
    clear M
    by_cases hz : k < R
    · obtain ⟨rfl, hbx, x1, x2⟩ := xcell.out k hz
      have d1 : wr.cell? ⟨bx, ox + k, none⟩ = some (.int .u64 (X k)) := by rw [hO.since.cell (p := ⟨bx, ox + k, none⟩) hbx]; exact x1
      have d2 : wr.cell? ⟨w2.heap.size, k, none⟩ = some (.slice (some ⟨w2.heap.size + 1 + k, 0, none⟩) C (C + 1)) := by simpa using hO.top.cell hz
      have d3 : wr.frozen? ⟨w2.heap.size, k, none⟩ = false := hO.top.frozen k
      have b2 : (k : Int) < (R : Int) := by omega
      have hst1 : ∀ o, (wr.alloc o).cell? ⟨w2.heap.size, k, none⟩ = some (.slice (some ⟨w2.heap.size + 1 + k, 0, none⟩) C (C + 1)) := fun o => by simpa using (hO.top.alloc o).cell hz
      have hst2 : ∀ o, (wr.alloc o).frozen? ⟨w2.heap.size, k, none⟩ = false := fun o => (hO.top.alloc o).frozen k
      have SP : Hid (∀ j, j < [Value.int .u64 0].length → ((wr.alloc (.cells #[.int .u64 (oF (X k))] 36)).drew.cell? ⟨w2.heap.size + 1 + k, 0 + C * 1 + j, none⟩).isSome = true ∧ (wr.alloc (.cells #[.int .u64 (oF (X k))] 36)).drew.frozen? ⟨w2.heap.size + 1 + k, 0 + C * 1 + j, none⟩ = false) := spare_one (hO.row k hz) (by omega) _
      have nb : w2.heap.size ≠ w2.heap.size + 1 + k := by omega
      clear hg hO x1
      go_wp2_with fail
      go_region_law (first | (refine step_append_room rfl (.tmp 41) (.tmp 44) 30 rfl 36 i36 1 Try.underlying30 HI.out.1 HI.out.2 (w2.heap.size + 1 + k) 0 C (C + 1) (by simp [Act.eval]) ⟨wr.heap.size, 0, none⟩ 1 1 [.int .u64 (oF (X k))] (by simp [Act.eval]) rfl (new_one wr _) (one_cell _) (by omega) SP.out ?_; rw [setCells_one]) | (go_simp; go_at_call 25; refine (of_any _ _ x2).mono ?_; rintro e w3 ⟨rfl, rfl⟩))
      all_goals go_wp2_with fail
      all_goals go_roundg (R - (k + 1))
      all_goals first | (have := HK.out.1; omega) | exact ⟨k + 1, ⟨rfl, by omega, HK.out.2.step hz _⟩, by go_num⟩
    · have e : k = R := by omega
      have HA : Hid (SApp w2 wr R C R Z X) := by rw [← e]; rw [e]; rw [e] at hO; exact hO
      have CR := reduce_any wr w2.heap.size w2.heap.size R (C + 1) (C + 1) C _ (appZ C Z X R) (sapp_done HA.out) (app_rng R C Z X) (by omega) (Nat.le_refl _) (by omega) (by omega)
      have HR : Hid (Calls Try.prog 21 #[.slice (some ⟨w2.heap.size, 0, none⟩) R R, .int .i64 (C : Int)] wr (Reduced wr w2.heap.size w2.heap.size R (C + 1) (C + 1) C (appZ C Z X R))) := CR
      clear e hg hO CR HK HI xcell
      go_wp2_with fail
      refine HR.out.mono ?_
      rintro e w3 ⟨n, l, G, Z', rfl, hred⟩
      have D : Hid (Red wr w3 w2.heap.size w2.heap.size R (C + 1) (C + 1) C n l G (appZ C Z X R) Z') := hred
      have BB : Hid (Below w2.heap.size w2 w3) := HA.out.since.trans hred.below
      have MT : Hid (Mut R (C + 1) (wideZ C Z X) Z') := (app_mut R C Z X).trans hred.mt
      have hnR : n ≤ R := hred.gj.le
      clear hred HR HA
      by_cases hnr : n = R
      · subst hnr
        clear hnR
        go_wp2_with fail
        go_loopg [55] 0 (fun g i wq => i = .int .i64 0 ∧ wq = w3)
        case atStart => exact ⟨rfl, rfl⟩
        case round =>
          obtain ⟨rfl, hw⟩ := hrel
          have hw' := hw.symm
          subst hw'
          clear hw
          by_cases hnC : n < C
          · go_wp2_with fail
            go_ret2
            exact Or.inr (Or.inl ⟨n, l, Z', rfl, D.out.gj, MT.out, D.out.rng, fun k h1 h2 => by omega, hnC, BB.out⟩)
          · have hCn : n = C := by have := D.out.gj.rk (D.out.mt.less (Nat.le_succ C)); have := this.cols; omega
            have HCN : Hid (n = C) := hCn
            have hCR : C ≤ n := by have := D.out.gj.le; omega
            have hmk30 := run_make_row' (P := Try.prog) 30 36 (.int .u64 0) 8 Try.underlying30 info36 rfl .i64 .i64 C (by omega) (by omega)
            clear hCn
            go_wp2_with fail
            clear hmk30
            go_loopg [72] C (fun g i wf => ∃ k : Nat, (g = C - k ∧ k ≤ C ∧ Fill w3 wf C k (fun i => Z' i C)) ∧ i = .int .i64 (k : Int))
            case atStart => exact ⟨0, ⟨rfl, by omega, fill_start w3 C _⟩, rfl⟩
            case round =>
              obtain ⟨k, ⟨hg, hk, hF⟩, rfl⟩ := hrel
              have HF : Hid (gk = C - k ∧ Fill w3 wr C k (fun i => Z' i C)) := ⟨hg, hF⟩
              by_cases hlt : k < C
              · have t1 := D.out.tbl.cell (i := k) (by omega)
                have t2 := (D.out.tbl.row k (by omega)).2.2.cell (Nat.le_refl _) (j := C) (by omega)
                have e1 := hF.since.cell (World.block_lt_of_cell? _ _ t1)
                have e2 := hF.since.cell (World.block_lt_of_cell? _ _ t2)
                have d1 := e1.trans t1
                have d2 := e2.trans t2
                have d3 : wr.cell? ⟨w3.heap.size, k, none⟩ = some (.int .u64 0) := by have := World.rowIs.cell hF.row (i := k) hlt; simpa using this
                have d4 : wr.frozen? ⟨w3.heap.size, k, none⟩ = false := World.rowIs.frozen hF.row k
                have b1 : (k : Int) < (n : Int) := by omega
                clear hg hF t1 t2 e1 e2
                go_wp2_with fail
                go_roundg (C - (k + 1))
                case measure => have := HF.out.1; omega
                case rel => exact ⟨k + 1, ⟨rfl, by omega, HF.out.2.step⟩, by go_num⟩
              · have e : k = C := by omega
                have HE : Hid (k = C) := e
                clear e hg hF
                go_wp2_with fail
                go_ret2
                have f := HF.out.2
                rw [HE.out] at f
                have d := Gj.eq D.out.gj HCN.out
                exact Or.inr (Or.inr ⟨l, Z', _, rfl, d, MT.out, D.out.rng, fun k h1 h2 => (fun k h1 h2 => by omega) k (by have := HCN.out; omega) h2, f.done, BB.out.trans (f.since.mono BB.out.size), BB.out.size⟩)
      · have hnR' : n < R := by omega
        clear hnr hnR
        go_wp2_with fail
        go_loopg [55] (R - n) (fun g i wq => ∃ k : Nat, (g = R - n - k ∧ k ≤ R - n ∧ (∀ i, i < k → Z' (n + i) C = 0) ∧ wq = w3) ∧ i = .int .i64 (k : Int))
        case atStart => exact ⟨0, ⟨rfl, by omega, fun i h => by omega, rfl⟩, rfl⟩
        case round =>
          obtain ⟨q, ⟨hg, hq, hz', hw⟩, rfl⟩ := hrel
          have hw' := hw.symm
          subst hw'
          clear hw
          have HQ : Hid (gk = R - n - q ∧ ∀ i, i < q → Z' (n + i) C = 0) := ⟨hg, hz'⟩
          clear hg hz'
          by_cases hlt : q < R - n
          · have t1 := D.out.tbl.cell (i := n + q) (by omega)
            have t2 := (D.out.tbl.row (n + q) (by omega)).2.2.cell (Nat.le_refl _) (j := C) (by omega)
            by_cases he : Z' (n + q) C = 0
            · have HE : Hid (Z' (n + q) C = 0) := he
              rw [he] at t2
              clear he
              go_wp2_with fail
              go_roundg (R - n - (q + 1))
              case measure => have := HQ.out.1; omega
              case rel =>
                refine ⟨q + 1, ⟨rfl, by omega, fun i hi => ?_, rfl⟩, by go_num⟩
                by_cases e : i = q
                · rw [e]; exact HE.out
                · exact HQ.out.2 i (by omega)
            · have HE : Hid (Z' (n + q) C ≠ 0) := he
              have hb : (Z' (n + q) C == 0) = false := by simpa using he
              clear he
              go_wp2_with fail
              go_ret2
              exact Or.inl ⟨n, n + q, l, Z', rfl, D.out.gj, MT.out, D.out.rng, by omega, by omega, HE.out, BB.out⟩
          · have e : q = R - n := by omega
            have HZ : Hid (∀ k, n ≤ k → k < R → Z' k C = 0) := fun k h1 h2 => by
              have := HQ.out.2 (k - n) (by omega)
              rw [show n + (k - n) = k by omega] at this
              exact this
            clear e HQ
            by_cases hnC : n < C
            · go_wp2_with fail
              go_ret2
              exact Or.inr (Or.inl ⟨n, l, Z', rfl, D.out.gj, MT.out, D.out.rng, HZ.out, hnC, BB.out⟩)
            · have hCn : n = C := by have := D.out.gj.rk (D.out.mt.less (Nat.le_succ C)); have := this.cols; omega
              have HCN : Hid (n = C) := hCn
              have hCR : C ≤ R := by have := D.out.gj.le; omega
              have hmk30 := run_make_row' (P := Try.prog) 30 36 (.int .u64 0) 8 Try.underlying30 info36 rfl .i64 .i64 C (by omega) (by omega)
              clear hCn
              go_wp2_with fail
              clear hmk30
              go_loopg [72] C (fun g i wf => ∃ k : Nat, (g = C - k ∧ k ≤ C ∧ Fill w3 wf C k (fun i => Z' i C)) ∧ i = .int .i64 (k : Int))
              case atStart => exact ⟨0, ⟨rfl, by omega, fill_start w3 C _⟩, rfl⟩
              case round =>
                obtain ⟨k, ⟨hg, hk, hF⟩, rfl⟩ := hrel
                have HF : Hid (gk = C - k ∧ Fill w3 wr C k (fun i => Z' i C)) := ⟨hg, hF⟩
                by_cases hlt : k < C
                · have t1 := D.out.tbl.cell (i := k) (by omega)
                  have t2 := (D.out.tbl.row k (by omega)).2.2.cell (Nat.le_refl _) (j := C) (by omega)
                  have e1 := hF.since.cell (World.block_lt_of_cell? _ _ t1)
                  have e2 := hF.since.cell (World.block_lt_of_cell? _ _ t2)
                  have d1 := e1.trans t1
                  have d2 := e2.trans t2
                  have d3 : wr.cell? ⟨w3.heap.size, k, none⟩ = some (.int .u64 0) := by have := World.rowIs.cell hF.row (i := k) hlt; simpa using this
                  have d4 : wr.frozen? ⟨w3.heap.size, k, none⟩ = false := World.rowIs.frozen hF.row k
                  have b1 : (k : Int) < (R : Int) := by omega
                  clear hg hF t1 t2 e1 e2
                  go_wp2_with fail
                  go_roundg (C - (k + 1))
                  case measure => have := HF.out.1; omega
                  case rel => exact ⟨k + 1, ⟨rfl, by omega, HF.out.2.step⟩, by go_num⟩
                · have e : k = C := by omega
                  have HE : Hid (k = C) := e
                  clear e hg hF
                  go_wp2_with fail
                  go_ret2
                  have f := HF.out.2
                  rw [HE.out] at f
                  have d := Gj.eq D.out.gj HCN.out
                  exact Or.inr (Or.inr ⟨l, Z', _, rfl, d, MT.out, D.out.rng, fun k h1 h2 => (HZ.out) k (by have := HCN.out; omega) h2, f.done, BB.out.trans (f.since.mono BB.out.size), BB.out.size⟩)
end Go.Proofs.Ytilkcbnioebinaa
