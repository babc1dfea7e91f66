/-
  What solve.reduce does: the table of the call's own is brought to the form in which its first rows lead.
-/
import Derived.Test.YtilkcbnioebinaaSolveTab
import Derived.BigRegion
namespace Go.Proofs.Ytilkcbnioebinaa
open Go.RowKit Fm Go.Deep
attribute [local go_sem ↓] Go.wp_at_zero Go.wp_at_succ

section
variable {w w' : World} {B b R W K : Nat} {G : Nat → Nat} {Z Z' : Nat → Nat → Int}
theorem Tbl.congr (h : Tbl w B b R W K G Z) (e : ∀ i, i < R → ∀ j, j < W → Z i j = Z' i j) : Tbl w B b R W K G Z' :=
  ⟨h.top, h.own, fun i hi => ⟨(h.row i hi).1, (h.row i hi).2.1, (h.row i hi).2.2.congr (e i hi)⟩, h.apart⟩
theorem Tbl.cell (h : Tbl w B b R W K G Z) {i : Nat} (hi : i < R) : w.cell? ⟨b, i, none⟩ = some (.slice (some ⟨G i, 0, none⟩) W K) := h.top.cell hi
theorem Tbl.rows (h : Tbl w B b R W K G Z) (hW : W ≤ K) (u : ∀ i, i < R → ∀ j, j < W → U (Z i j)) (n : Nat) (hn : n ≤ R) : RowsAt w (.slice (some ⟨b, n, none⟩) (R - n) (R - n)) (R - n) (fun _ => W) (fun i => Z (n + i)) :=
  ⟨_, R - n, b, n, fun i => .slice (some ⟨G (n + i), 0, none⟩) W K, rfl, Nat.le_refl _, fun _ => rfl, fun r hr => ⟨h.top.cell (by omega), _, K, G (n + r), 0, rfl, hW, fun _ => rfl, fun c hc => ⟨by rw [Nat.zero_add]; exact (h.row (n + r) (by omega)).2.2.cell hW hc, u (n + r) (by omega) c hc⟩⟩⟩
theorem Tbl.put (h : Tbl w B b R W K G Z) {i : Nat} (hi : i < R) (ho : Only (G i) w w') {z : Nat → Int} (hz : RowUpto w' (G i) W K z) (e : ∀ q, q < R → q ≠ i → ∀ j, j < W → Z' q j = Z q j) (e' : ∀ j, j < W → Z' i j = z j) : Tbl w' B b R W K G Z' := by
  refine ⟨ho.row (Ne.symm (h.row i hi).2.1) h.top, h.own, fun q hq => ⟨(h.row q hq).1, (h.row q hq).2.1, ?_⟩, h.apart⟩
  by_cases eq : q = i
  · subst eq
    exact hz.congr fun j hj => (e' j hj).symm
  · exact ((h.row q hq).2.2.of_block (ho.block _ fun x => eq (h.apart q i hq hi x))).congr fun j hj => (e q hq eq j hj).symm
theorem Tbl.swap (h : Tbl w B b R W K G Z) {n f : Nat} (hn : n < R) (hf : f < R) :
    Tbl ((w.setCell ⟨b, n, none⟩ (.slice (some ⟨G f, 0, none⟩) W K)).setCell ⟨b, f, none⟩ (.slice (some ⟨G n, 0, none⟩) W K)).drew B b R W K (fun i => G (if i = f then n else if i = n then f else i)) (swapZ Z n f) := by
  have blk : ∀ g, g ≠ b → ((w.setCell ⟨b, n, none⟩ (.slice (some ⟨G f, 0, none⟩) W K)).setCell ⟨b, f, none⟩ (.slice (some ⟨G n, 0, none⟩) W K)).drew.heap[g]? = w.heap[g]? := fun g hg =>
    (Below.heap_setCell _ _ _ _ hg).trans (Below.heap_setCell _ _ _ _ hg)
  have sg : ∀ i, i < R → (if i = f then n else if i = n then f else i) < R := fun i hi => by
    split
    · exact hn
    · split <;> omega
  refine ⟨(((h.top.set n _).set f _).congr fun i hi => ?_).drew, h.own, fun i hi => ?_, fun i k hi hk e => ?_⟩
  · split
    · rfl
    · split
      · rfl
      · rfl
  · obtain ⟨h1, h2, h3⟩ := h.row _ (sg i hi)
    refine ⟨h1, h2, (h3.of_block (blk _ h2)).congr fun j _ => ?_⟩
    unfold swapZ
    by_cases e1 : i = f
    · rw [if_pos e1]
      by_cases e2 : i = n
      · rw [if_pos e2, ← e2, e1]
      · rw [if_neg e2, if_pos e1]
    · rw [if_neg e1]
      by_cases e2 : i = n
      · rw [if_pos e2, if_pos e2]
      · rw [if_neg e2, if_neg e2, if_neg e1]
  · have := h.apart _ _ (sg i hi) (sg k hk) e
    split at this <;> split at this <;> (try split at this) <;> (try split at this) <;> omega
end

/-- What is known while a table is brought to its form. -/
structure Red (w wr : World) (B b R W K c n : Nat) (l G : Nat → Nat) (Z0 Z : Nat → Nat → Int) : Prop where
  gj : Gj R c n l Z
  mt : Mut R W Z0 Z
  rng : Rng R W Z
  tbl : Tbl wr B b R W K G Z
  below : Below B w wr
  size : wr.heap.size = w.heap.size
def Reduced (w : World) (B b R W K C : Nat) (Z0 : Nat → Nat → Int) (e : Ending) (w' : World) : Prop :=
  ∃ n l G Z, e = .returned (.int .i64 ((n : Nat) : Int)) ∧ Red w w' B b R W K C n l G Z0 Z
theorem rng_U {R W : Nat} {Z : Nat → Nat → Int} (h : Rng R W Z) : ∀ i, i < R → ∀ j, j < W → U (Z i j) := fun i hi j hj => ⟨(h i hi j hj).1, by have := (h i hi j hj).2; omega⟩

/-- .. and while a row is taken from the others. -/
structure Elim (w wr : World) (B b R W K c n m : Nat) (G : Nat → Nat) (Z : Nat → Nat → Int) : Prop where
  tbl : Tbl wr B b R W K G (elimZ Z n c m)
  below : Below B w wr
  size : wr.heap.size = w.heap.size
theorem elim_same {Z : Nat → Nat → Int} {n c m i : Nat} (h : m ≤ i) (j : Nat) : elimZ Z n c m i j = Z i j := by unfold elimZ; rw [if_neg (by omega)]
theorem elim_lead {Z : Nat → Nat → Int} {n c m : Nat} (j : Nat) : elimZ Z n c m n j = Z n j := by simp [elimZ]
theorem Elim.step {w wr w' : World} {B b R W K c n m : Nat} {G : Nat → Nat} {Z : Nat → Nat → Int} (h : Elim w wr B b R W K c n m G Z) (hm : m < R) (hne : m ≠ n) (ho : Only (G m) wr w') (hr : RowUpto w' (G m) W K (fun j => subF (Z m j) (mulF (Z m c) (Z n j)))) :
    Elim w w' B b R W K c n (m + 1) G Z := by
  refine ⟨h.tbl.put hm ho hr (fun q hq hqm j hj => ?_) (fun j hj => ?_), ho.below (h.tbl.row m hm).1 h.below, ho.size.trans h.size⟩
  · unfold elimZ
    by_cases e : q < m ∧ q ≠ n
    · rw [if_pos e, if_pos ⟨by omega, e.2⟩]
    · rw [if_neg e, if_neg (by omega)]
  · unfold elimZ; rw [if_pos ⟨by omega, hne⟩]
theorem Elim.skip {w wr : World} {B b R W K c n : Nat} {G : Nat → Nat} {Z : Nat → Nat → Int} (h : Elim w wr B b R W K c n n G Z) : Elim w wr B b R W K c n (n + 1) G Z :=
  ⟨h.tbl.congr fun i hi j hj => by
    unfold elimZ
    by_cases e : i < n ∧ i ≠ n
    · rw [if_pos e, if_pos ⟨by omega, e.2⟩]
    · rw [if_neg e, if_neg (by omega)], h.below, h.size⟩
theorem Elim.drewN {w wr : World} {B b R W K c n m : Nat} {G : Nat → Nat} {Z : Nat → Nat → Int} (h : Elim w wr B b R W K c n m G Z) : Elim w wr.drew B b R W K c n m G Z :=
  ⟨⟨h.tbl.top, h.tbl.own, h.tbl.row, h.tbl.apart⟩, h.below.drew, h.size⟩

theorem Red.more {w wr wz w' : World} {B b R W K c n f : Nat} {l G : Nat → Nat} {Z0 Z : Nat → Nat → Int} (h : Red w wr B b R W K c n l G Z0 Z) (hc : c < W) (hn : n ≤ f) (hf : f < R) (hz : Z f c ≠ 0) {G' : Nat → Nat}
    (e : Elim wz w' B b R W K c n R G' (scaleZ (swapZ Z n f) n (powF (swapZ Z n f n c) 2305843009213693949))) (hw : Below B w wz) (hs : wz.heap.size = w.heap.size) :
    Red w w' B b R W K (c + 1) (n + 1) (fun i => if i < n then l i else c) G' Z0 (elimZ (scaleZ (swapZ Z n f) n (powF (swapZ Z n f n c) 2305843009213693949)) n c R) := by
  have hn' : n < R := by omega
  have sr := swap_rng h.rng hn' hf
  have ez : swapZ Z n f n c = Z f c := by simp [swapZ]
  have nz : swapZ Z n f n c ≠ 0 := by rw [ez]; exact hz
  obtain ⟨z0, z1⟩ := sr n hn' c hc
  exact ⟨(h.gj.swap hn hf).more sr hc hn' nz, h.mt.trans ((swap_mut Z hn' hf).trans ((scale_mut (swapZ Z n f) hn' _ (swapZ Z n f n c) (inv_al _ z0 (by rw [oF_id z0 z1]; exact nz))).trans (elim_mut _ hn'))), elim_rng (scale_rng sr _), e.tbl, hw.trans e.below, e.size.trans hs⟩
theorem below_swap {w : World} {B b i j : Nat} {u v : Value} (h : B ≤ b) : Below B w ((w.setCell ⟨b, i, none⟩ u).setCell ⟨b, j, none⟩ v).drew := (((Below.refl B w).setCell h _).setCell h _).drew
theorem size_swap {w : World} {a a' : Addr} {u v : Value} : ((w.setCell a u).setCell a' v).drew.heap.size = w.heap.size := by simp [World.setCell, World.drew]
/-- The row that leads, divided: the table is ready for the others. -/
theorem Elim.start {w wr : World} {B b R W K c n : Nat} {G : Nat → Nat} {Z : Nat → Nat → Int} {q : Int} (h : Tbl w B b R W K G Z) (hn : n < R) (ho : Only (G n) w wr) (hr : RowUpto wr (G n) W K (fun j => mulF (Z n j) q)) :
    Elim w wr B b R W K c n 0 G (scaleZ Z n q) :=
  ⟨(h.put (Z' := scaleZ Z n q) hn ho hr (fun p _ hp j _ => by simp [scaleZ, hp]) (fun j _ => by simp [scaleZ])).congr fun i _ j _ => by simp [elimZ], ho.below (h.row n hn).1 (Below.refl _ _), ho.size⟩

set_option maxHeartbeats 6400000 in
theorem reduce_any (w : World) (B b R W K C : Nat) (G : Nat → Nat) (Z : Nat → Nat → Int) (h : Tbl w B b R W K G Z) (hr : Rng R W Z) (hC : C ≤ W) (hW : W ≤ K) (hK : K ≤ 100) (hR : R ≤ 100) :
    Calls Try.prog 21 #[.slice (some ⟨b, 0, none⟩) R R, .int .i64 (C : Int)] w (Reduced w B b R W K C Z) := by
  have H0 : Hid (Red w w B b R W K 0 0 (fun _ => 0) G Z Z) := ⟨Gj.start R Z, Mut.refl _ _ _, hr, h, Below.refl _ _, rfl⟩
  clear h hr
  go_enter Try.func21, Try.ntmps21
  go_wp2_with fail
  go_loopg [5, 11] C (fun g rk i wr => ∃ (c n : Nat) (l G : Nat → Nat) (Z' : Nat → Nat → Int), (g = C - c ∧ c ≤ C ∧ Red w wr B b R W K c n l G Z Z') ∧ rk = .int .i64 (n : Int) ∧ i = .int .i64 (c : Int))
  case atStart => exact ⟨0, 0, _, _, _, ⟨rfl, by omega, H0.out⟩, rfl, rfl⟩
  case round =>
    obtain ⟨c, n, l, G', Z', ⟨hg, hc, hD⟩, rfl, rfl⟩ := hrel
    have HD : Hid (gk = C - c ∧ Red w wr B b R W K c n l G' Z Z') := ⟨hg, hD⟩
    clear H0
    have hnR : n ≤ R := hD.gj.le
    by_cases hcC : c < C
    · by_cases hnr : n = R
      · have hlead := leading_any wr (.slice (some ⟨b, 0, none⟩) 0 0) 0 W c (fun _ _ => 0) ⟨_, 0, b, 0, fun _ => .slice none 0 0, rfl, Nat.le_refl _, fun h => by omega, fun r hr => by omega⟩ (by omega) (by omega)
        have HL : Hid (Calls Try.prog 30 #[.slice (some ⟨b, 0, none⟩) 0 0, .int .i64 (c : Int)] wr (TellsLead wr 0 c (fun _ _ => 0))) := hlead
        have HN : Hid (n = R) := hnr
        clear hlead hD hg
        subst hnr
        go_wp2_with fail
        refine HL.out.mono ?_
        rintro e w'' ⟨k, rfl, hk, _, _, rfl⟩
        obtain rfl : k = 0 := by omega
        go_wp2_with fail
        go_roundg (C - (c + 1))
        case measure => have := HD.out.1; omega
        case rel =>
          obtain ⟨_, d⟩ := HD.out
          exact ⟨c + 1, n, l, G', Z', ⟨rfl, by omega, ⟨d.gj.none fun i h1 h2 => by omega, d.mt, d.rng, d.tbl, d.below, d.size⟩⟩, rfl, by go_num⟩
      have hlt : n < R := by omega
      have hrows := hD.tbl.rows hW (rng_U hD.rng) n hnR
      have hlead := leading_any wr _ (R - n) W c _ hrows (by omega) (by omega)
      have HL : Hid (Calls Try.prog 30 #[.slice (some ⟨b, n, none⟩) (R - n) (R - n), .int .i64 (c : Int)] wr (TellsLead wr (R - n) c (fun i => Z' (n + i)))) := hlead
      clear hrows hlead hD hg
      go_wp2_with fail
      refine HL.out.mono ?_
      rintro e w'' ⟨k, rfl, hk, hk1, hk2, rfl⟩
      have HK : Hid ((∀ i, i < k → Z' (n + i) c = 0) ∧ (k < R - n → Z' (n + k) c ≠ 0)) := ⟨hk1, hk2⟩
      clear hk1 hk2 HL
      by_cases hf : n + k = R
      · have HF : Hid (n + k = R) := hf
        have hq : ((n : Int) + (k : Int) == (R : Int)) = true := by
          have : (n : Int) + (k : Int) = (R : Int) := by omega
          rw [this]; exact beq_self_eq_true _
        clear hf
        go_wp2_with fail
        go_roundg (C - (c + 1))
        case measure => have := HD.out.1; omega
        case rel =>
          obtain ⟨_, d⟩ := HD.out
          refine ⟨c + 1, n, l, G', Z', ⟨rfl, by omega, ⟨d.gj.none fun i h1 h2 => ?_, d.mt, d.rng, d.tbl, d.below, d.size⟩⟩, rfl, by go_num⟩
          have := HK.out.1 (i - n) (by have := HF.out; omega)
          rw [show n + (i - n) = i by omega] at this
          exact this
      · obtain ⟨f, hfe⟩ : ∃ f, f = n + k := ⟨_, rfl⟩
        have hfR : f < R := by omega
        have hnf : n ≤ f := by omega
        have hzf : Z' f c ≠ 0 := by rw [hfe]; exact HK.out.2 (by omega)
        have hq : ((f : Int) == (R : Int)) = false := by
          have : (f : Int) ≠ (R : Int) := by omega
          simpa using this
        have hsum : (n : Int) + (k : Int) = (f : Int) := by omega
        have HZ : Hid (Z' f c ≠ 0) := hzf
        clear hf HK hzf hfe
        obtain ⟨dg, d⟩ := HD.out
        have s1 := d.tbl.cell hlt
        have s2 := d.tbl.cell hfR
        have s3 : ∀ i, w''.frozen? ⟨b, i, none⟩ = false := fun i => d.tbl.top.frozen i
        have i1 : (n : Int) < R := by omega
        have i2 : (f : Int) < R := by omega
        obtain ⟨v', hy'⟩ := cell?_setCell_some (w := w'') (p := ⟨b, n, none⟩) (x := .slice (some ⟨G' f, 0, none⟩) W K) (q := ⟨b, f, none⟩) s2
        clear dg d
        go_wp2_with fail
        go_region
        clear hy' s1 s2 s3
        generalize hws : ((w''.setCell ⟨b, n, none⟩ (.slice (some ⟨G' f, 0, none⟩) W K)).setCell ⟨b, f, none⟩ (.slice (some ⟨G' n, 0, none⟩) W K)).drew = ws
        have T : Tbl ws B b R W K (fun i => G' (if i = f then n else if i = n then f else i)) (swapZ Z' n f) := by rw [← hws]; exact HD.out.2.tbl.swap hlt hfR
        have TB : Hid (Below B w ws ∧ ws.heap.size = w.heap.size) := by
          rw [← hws]
          exact ⟨HD.out.2.below.trans (below_swap HD.out.2.tbl.own), size_swap.trans HD.out.2.size⟩
        clear hws
        obtain ⟨Gs, hGs⟩ : ∃ Gs, Gs = fun i => G' (if i = f then n else if i = n then f else i) := ⟨_, rfl⟩
        rw [← hGs] at T
        clear hGs
        have RS : Rng R W (swapZ Z' n f) := swap_rng HD.out.2.rng hlt hfR
        have nz : swapZ Z' n f n c ≠ 0 := by simpa [swapZ] using HZ.out
        have RM : Hid (∀ (w' : World), Elim ws w' B b R W K c n R Gs (scaleZ (swapZ Z' n f) n (powF (swapZ Z' n f n c) 2305843009213693949)) →
            Red w w' B b R W K (c + 1) (n + 1) (fun i => if i < n then l i else c) Gs Z (elimZ (scaleZ (swapZ Z' n f) n (powF (swapZ Z' n f n c) 2305843009213693949)) n c R)) :=
          fun w' e => HD.out.2.more (by omega) hnf hfR HZ.out e TB.out.1 TB.out.2
        obtain ⟨Zs, hZs⟩ : ∃ Zs, Zs = swapZ Z' n f := ⟨_, rfl⟩
        rw [← hZs] at T RS nz RM
        clear hZs TB HZ
        have t1 := T.cell hlt
        have CO := toOne_upto ws (Gs n) W K c (Zs n) (T.row n hlt).2.2 hW (by omega) (by omega) (RS n hlt) nz
        have HO : Hid (Calls Try.prog 31 #[.slice (some ⟨Gs n, 0, none⟩) W K, .int .i64 (c : Int)] ws fun e w' => e = .returned (.tuple #[]) ∧ Only (Gs n) ws w' ∧ RowUpto w' (Gs n) W K (fun j => mulF (Zs n j) (powF (Zs n c) 2305843009213693949))) := CO
        have HT : Hid (Tbl ws B b R W K Gs Zs ∧ Rng R W Zs) := ⟨T, RS⟩
        clear CO T RS nz
        go_wp2_with fail
        refine HO.out.mono ?_
        rintro e w1 ⟨rfl, ho, hr1⟩
        have E0 : Hid (Elim ws w1 B b R W K c n 0 Gs (scaleZ Zs n (powF (Zs n c) 2305843009213693949))) := Elim.start HT.out.1 hlt ho hr1
        have RT : Hid (Rng R W (scaleZ Zs n (powF (Zs n c) 2305843009213693949))) := scale_rng HT.out.2 _
        obtain ⟨Zt, hZt⟩ : ∃ Zt, Zt = scaleZ Zs n (powF (Zs n c) 2305843009213693949) := ⟨_, rfl⟩
        rw [← hZt] at E0 RT RM
        clear hZt HO HT ho hr1 t1
        go_wp2_with fail
        go_loopg [47] R (fun g i wi => ∃ m : Nat, (g = R - m ∧ m ≤ R ∧ Elim ws wi B b R W K c n m Gs Zt) ∧ i = .int .i64 (m : Int))
        case atStart => exact ⟨0, ⟨rfl, by omega, E0.out⟩, rfl⟩
        case round =>
          obtain ⟨m, ⟨hg, hm, hE⟩, rfl⟩ := hrel
          have HI : Hid (gk = R - m ∧ Elim ws wr B b R W K c n m Gs Zt) := ⟨hg, hE⟩
          clear E0
          by_cases hmR : m < R
          · have t1 := hE.tbl.cell hmR
            have t2 := hE.tbl.cell hlt
            by_cases hmn : m = n
            · have HN : Hid (m = n) := hmn
              have hq : ((m : Int) == (n : Int)) = true := by rw [hmn]; exact beq_self_eq_true _
              clear hE hg hmn
              go_wp2_with fail
              go_roundg (R - (m + 1))
              case measure => have := HI.out.1; omega
              case rel =>
                have h1 := HI.out.2
                have h2 := HN.out
                subst h2
                exact ⟨m + 1, ⟨rfl, by omega, h1.skip⟩, by go_num⟩
            · have HN : Hid (m ≠ n) := hmn
              have hq : ((m : Int) == (n : Int)) = false := by
                have : (m : Int) ≠ (n : Int) := by omega
                simpa using this
              obtain ⟨_, _, r3⟩ := hE.tbl.row m hmR
              obtain ⟨_, _, r6⟩ := hE.tbl.row n hlt
              have r3' : RowUpto wr (Gs m) W K (Zt m) := r3.congr fun j _ => elim_same (Nat.le_refl _) j
              have r6' : RowUpto wr (Gs n) W K (Zt n) := r6.congr fun j _ => elim_lead j
              have t3 : wr.cell? ⟨Gs m, c, none⟩ = some (.int .u64 (Zt m c)) := r3'.cell hW (by omega)
              have i1 : (c : Int) < W := by omega
              have i2 : (n : Int) < R := by omega
              have gne : Gs m ≠ Gs n := fun e => hmn (hE.tbl.apart m n hmR hlt e)
              have CT := takeAway_upto wr.drew (Gs m) (Gs n) W K (Zt m) (Zt n) (Zt m c) r3' r6' gne hW (by omega) (rng_U RT.out m hmR c (by omega)) (rng_U RT.out m hmR) (rng_U RT.out n hlt)
              have HT : Hid (Calls Try.prog 32 #[.slice (some ⟨Gs m, 0, none⟩) W K, .slice (some ⟨Gs n, 0, none⟩) W K, .int .u64 (Zt m c)] wr.drew fun e w' => e = .returned (.tuple #[]) ∧ Only (Gs m) wr.drew w' ∧ RowUpto w' (Gs m) W K (fun j => subF (Zt m j) (mulF (Zt m c) (Zt n j)))) := CT
              clear hE hg hmn r3 r6 r3' r6' gne CT
              go_wp2_with fail
              go_region_with (go_at_call 32; refine HT.out.mono ?_; rintro e w2 ⟨rfl, ho2, hr2⟩)
              all_goals go_wp2_with fail
              all_goals go_roundg (R - (m + 1))
              all_goals first | (have := HI.out.1; omega) | exact ⟨m + 1, ⟨rfl, by omega, HI.out.2.drewN.step hmR HN.out ho2 hr2⟩, by go_num⟩
          · have e : m = R := by omega
            have HE : Hid (m = R) := e
            clear e hE hg
            go_wp2_with fail
            go_roundg (C - (c + 1))
            case measure => have := HD.out.1; omega
            case rel => exact ⟨c + 1, n + 1, _, Gs, _, ⟨rfl, by omega, RM.out wr (by have := HI.out.2; rw [HE.out] at this; exact this)⟩, by go_num, by go_num⟩
    · have e : c = C := by omega
      have HE : Hid (c = C) := e
      clear e hD hg
      go_wp2_with fail
      go_ret
      exact ⟨n, l, G', Z', rfl, by have := HD.out.2; rw [HE.out] at this; exact this⟩

end Go.Proofs.Ytilkcbnioebinaa
