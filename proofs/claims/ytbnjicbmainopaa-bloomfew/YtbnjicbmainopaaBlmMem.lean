
/-
  How filters lie in memory, and what the functions of layer 10 (bloom) that write no row answer.
-/
import Derived.Test.YtbnjicbmainopaaHashMore
import Derived.Deep.AppendLies
import Derived.OwnWalk
namespace Go.Proofs.Ytbnjicbmainopaa
open Go.RowKit Fm Bl L2 Go.Deep
set_option linter.unusedVariables false

/-- Bits that can be read, whoever made them. -/
def BoolsAt (w : World) (v : Value) (n : Nat) (B : Nat → Bool) : Prop :=
  ∃ (A : Option Addr) (cap b o : Nat), v = .slice A n cap ∧ n ≤ cap ∧ (0 < n → A = some ⟨b, o, none⟩) ∧ ∀ i, i < n → w.cell? ⟨b, o + i, none⟩ = some (.bool (B i))
theorem BoolsAt.keep {w w' : World} {v : Value} {n : Nat} {B : Nat → Bool} (h : BoolsAt w v n B) (k : Keep w w') : BoolsAt w' v n B := by
  obtain ⟨A, cap, b, o, h1, h2, h3, h4⟩ := h
  exact ⟨A, cap, b, o, h1, h2, h3, fun i hi => k _ _ (h4 i hi)⟩
theorem BoolsAt.congr {w : World} {v : Value} {n : Nat} {B C : Nat → Bool} (h : BoolsAt w v n B) (e : ∀ i, i < n → B i = C i) : BoolsAt w v n C := by
  obtain ⟨A, cap, b, o, h1, h2, h3, h4⟩ := h
  exact ⟨A, cap, b, o, h1, h2, h3, fun i hi => by rw [← e i hi]; exact h4 i hi⟩
/-- Places that can be read. -/
def PlacesAt (w : World) (v : Value) (K : Nat) (p : Nat → Nat) : Prop :=
  ∃ (A : Option Addr) (cap b o : Nat), v = .slice A K cap ∧ K ≤ cap ∧ (0 < K → A = some ⟨b, o, none⟩) ∧ ∀ i, i < K → w.cell? ⟨b, o + i, none⟩ = some (.int .i64 (p i : Int))
theorem PlacesAt.keep {w w' : World} {v : Value} {K : Nat} {p : Nat → Nat} (h : PlacesAt w v K p) (k : Keep w w') : PlacesAt w' v K p := by
  obtain ⟨A, cap, b, o, h1, h2, h3, h4⟩ := h
  exact ⟨A, cap, b, o, h1, h2, h3, fun i hi => k _ _ (h4 i hi)⟩
/-- A filter as a value. -/
def FilterAt (w : World) (x : Value) (S H : Int) (n : Nat) (B : Nat → Bool) : Prop := ∃ v, x = .agg #[.int .u64 S, .int .i64 H, v] ∧ BoolsAt w v n B
theorem FilterAt.keep {w w' : World} {x : Value} {S H : Int} {n : Nat} {B : Nat → Bool} (h : FilterAt w x S H n B) (k : Keep w w') : FilterAt w' x S H n B := by
  obtain ⟨v, h1, h2⟩ := h
  exact ⟨v, h1, h2.keep k⟩
theorem FilterAt.congr {w : World} {x : Value} {S H : Int} {n : Nat} {B C : Nat → Bool} (h : FilterAt w x S H n B) (e : ∀ i, i < n → B i = C i) : FilterAt w x S H n C := by
  obtain ⟨v, h1, h2⟩ := h
  exact ⟨v, h1, h2.congr e⟩
/-- A number that an int holds. -/
def I (h : Int) : Prop := -9223372036854775808 ≤ h ∧ h ≤ 9223372036854775807

def put3 (w : World) (g : Nat) (a0 a1 a2 : Value) : World := ((w.setCell ⟨g, 0, none⟩ a0).setCell ⟨g, 1, none⟩ a1).setCell ⟨g, 2, none⟩ a2
theorem put3_eq (w : World) (g : Nat) (a0 a1 a2 : Value) : put3 w g a0 a1 a2 = putCells w g 0 [a0, a1, a2] := by simp only [put3, putCells]
theorem put3_below {Bd : Nat} {w wr : World} {g : Nat} (h : Below Bd w wr) (hg : Bd ≤ g) (a0 a1 a2 : Value) : Below Bd w (put3 wr g a0 a1 a2) := by
  rw [put3_eq]; exact putCells_below hg _ _ _ h
theorem put3_blk {w : World} {g : Nat} {t : TypeId} {x0 x1 x2 : Value} (h : Blk w g t #[x0, x1, x2]) (a0 a1 a2 : Value) : Blk (put3 w g a0 a1 a2) g t #[a0, a1, a2] := by
  rw [put3_eq]; exact putCells_blk [a0, a1, a2] [x0, x1, x2] [] w 0 rfl rfl h
theorem put3_other {w : World} {g q : Nat} {t : TypeId} {cs : Array Value} (h : Blk w q t cs) (hq : q ≠ g) (a0 a1 a2 : Value) : Blk (put3 w g a0 a1 a2) q t cs :=
  ((h.other (a := ⟨g, 0, none⟩) hq a0).other (a := ⟨g, 1, none⟩) hq a1).other (a := ⟨g, 2, none⟩) hq a2

set_option maxHeartbeats 800000 in
theorem fits_any (b h : Int) (w : World) : Calls Try.prog 27 #[.int .i64 b, .int .i64 h] w fun e w' => e = .returned (.bool (fitsB b h)) ∧ w' = w := by
  by_cases c1 : 1 ≤ b
  rotate_left
  · have E : Hid (fitsB b h = false) := decide_eq_false (by omega)
    go_enter Try.func27, Try.ntmps27
    go_wp2
    go_ret
    exact ⟨by rw [E.out]; rfl, rfl⟩
  by_cases c2 : b ≤ 256
  rotate_left
  · have E : Hid (fitsB b h = false) := decide_eq_false (by omega)
    go_enter Try.func27, Try.ntmps27
    go_wp2
    go_ret
    exact ⟨by rw [E.out]; rfl, rfl⟩
  by_cases c3 : 1 ≤ h
  rotate_left
  · have E : Hid (fitsB b h = false) := decide_eq_false (by omega)
    go_enter Try.func27, Try.ntmps27
    go_wp2
    go_ret
    exact ⟨by rw [E.out]; rfl, rfl⟩
  by_cases c4 : h ≤ 7
  rotate_left
  · have E : Hid (fitsB b h = false) := decide_eq_false (by omega)
    go_enter Try.func27, Try.ntmps27
    go_wp2
    go_ret
    exact ⟨by rw [E.out]; rfl, rfl⟩
  have E : Hid (fitsB b h = true) := decide_eq_true (by omega)
  go_enter Try.func27, Try.ntmps27
  go_wp2
  go_ret
  exact ⟨by rw [E.out]; rfl, rfl⟩
set_option maxHeartbeats 800000 in
theorem right_any (w : World) (x : Value) (S H : Int) (n : Nat) (B : Nat → Bool) (h : FilterAt w x S H n B) :
    Calls Try.prog 14 #[x] w fun e w' => e = .returned (.bool (fitsB n H)) ∧ Below w.heap.size w w' := by
  obtain ⟨v, rfl, A, cap, b, o, rfl, _⟩ := h
  go_enter Try.func14, Try.ntmps14
  go_wp2_with fail
  refine (fits_any _ _ _).mono ?_
  rintro e u1 ⟨rfl, rfl⟩
  go_wp2_with fail
  go_ret
  exact ⟨rfl, bel_alloc _ _⟩
def alikeB (S H : Int) (n : Nat) (S' H' : Int) (m : Nat) : Bool := decide (S = S' ∧ H = H' ∧ n = m)
set_option maxHeartbeats 1600000 in
theorem alike_any (w : World) (x y : Value) (S H S' H' : Int) (n m : Nat) (B C : Nat → Bool) (h : FilterAt w x S H n B) (k : FilterAt w y S' H' m C) :
    Calls Try.prog 36 #[x, y] w fun e w' => e = .returned (.bool (alikeB S H n S' H' m)) ∧ Below w.heap.size w w' := by
  obtain ⟨v, rfl, A, cap, b, o, rfl, _⟩ := h
  obtain ⟨v', rfl, A', cap', b', o', rfl, _⟩ := k
  have BB : Hid (Below w.heap.size w ((w.alloc (.cells #[.int .u64 S, .int .i64 H, .slice A n cap] 25)).alloc (.cells #[.int .u64 S', .int .i64 H', .slice A' m cap'] 25))) := (bel_alloc _ _).alloc (by simp) _
  by_cases c1 : S = S'
  rotate_left
  · have q : (S == S') = false := by simpa using c1
    have E : Hid (alikeB S H n S' H' m = false) := decide_eq_false (fun x => c1 x.1)
    clear c1
    go_enter Try.func36, Try.ntmps36
    go_wp2
    go_ret
    exact ⟨by rw [E.out]; rfl, BB.out⟩
  subst c1
  by_cases c2 : H = H'
  rotate_left
  · have q : (H == H') = false := by simpa using c2
    have E : Hid (alikeB S H n S H' m = false) := decide_eq_false (fun x => c2 x.2.1)
    clear c2
    go_enter Try.func36, Try.ntmps36
    go_wp2
    go_ret
    exact ⟨by rw [E.out]; rfl, BB.out⟩
  subst c2
  by_cases c3 : n = m
  rotate_left
  · have q : ((n : Int) == (m : Int)) = false := by simp; omega
    have E : Hid (alikeB S H n S H m = false) := decide_eq_false (fun x => c3 x.2.2)
    clear c3
    go_enter Try.func36, Try.ntmps36
    go_wp2
    go_ret
    exact ⟨by rw [E.out]; rfl, BB.out⟩
  subst c3
  have E : Hid (alikeB S H n S H n = true) := decide_eq_true ⟨rfl, rfl, rfl⟩
  go_enter Try.func36, Try.ntmps36
  go_wp2
  go_ret
  exact ⟨by rw [E.out]; rfl, BB.out⟩
theorem info3 : (Try.prog.info? 3).map (fun i => (i.zero, i.size, i.bytes)) = some (some (.int .i64 0), 1, 8) := by kernel_rfl
theorem info4 : (Try.prog.info? 4).map (fun i => (i.zero, i.size, i.bytes)) = some (some (.bool false), 1, 1) := by kernel_rfl
theorem place_step {w : World} {g K k : Nat} {F : Nat → Nat} (h : w.rowIs g 3 K (fun j => if j < k then .int .i64 (F j : Int) else .int .i64 0)) :
    (w.setCell ⟨g, k, none⟩ (.int .i64 (F k : Int))).drew.rowIs g 3 K (fun j => if j < k + 1 then .int .i64 (F j : Int) else .int .i64 0) := by
  refine World.rowIs.congr (World.rowIs.set h k _) fun j hj => ?_
  by_cases e : j = k
  · subst e; simp
  · by_cases e2 : j < k
    · simp [e, e2, show j < k + 1 by omega]
    · simp [e, e2, show ¬ j < k + 1 by omega]
def GavePlaces (w : World) (K : Nat) (p : Nat → Nat) (e : Ending) (w' : World) : Prop := ∃ v, e = .returned v ∧ PlacesAt w' v K p ∧ Below w.heap.size w w'
/-- Places in a slice of their own. -/
def MadePlaces (w : World) (K : Nat) (p : Nat → Nat) (e : Ending) (w' : World) : Prop := ∃ v, e = .returned v ∧ PlacesAt w' v K p ∧ Below w.heap.size w w' ∧ (0 < K → ∃ b o cap, v = .slice (some ⟨b, o, none⟩) K cap ∧ w.heap.size ≤ b)
set_option maxHeartbeats 3200000 in
theorem places_made (w : World) (x : Value) (S H : Int) (n : Nat) (B : Nat → Bool) (s : ByteArray) (h : FilterAt w x S H n B) (uS : U S) (hs : s.size ≤ 100000) :
    Calls Try.prog 17 #[x, .string s] w (MadePlaces w (kN n H) (placeN S s n)) := by
  obtain ⟨v, rfl, hb⟩ := h
  have RC : Hid (∀ w1, Below w.heap.size w w1 → Calls Try.prog 14 #[.agg #[.int .u64 S, .int .i64 H, v]] w1 fun e w' => e = .returned (.bool (fitsB n H)) ∧ Below w1.heap.size w1 w') := fun w1 b1 => right_any w1 _ S H n B ⟨v, rfl, hb.keep (keep_of_below b1)⟩
  obtain ⟨A, cap, b, o, rfl, _⟩ := hb
  have BX : Hid (Below w.heap.size w (w.alloc (.cells #[.int .u64 S, .int .i64 H, .slice A n cap] 25))) := bel_alloc _ _
  have KX : Hid (Blk (w.alloc (.cells #[.int .u64 S, .int .i64 H, .slice A n cap] 25)) w.heap.size 25 #[.int .u64 S, .int .i64 H, .slice A n cap]) := Blk.new _ _ _
  by_cases hr : fitsB n H = true
  rotate_left
  · have hr' : fitsB n H = false := by simpa using hr
    have E : Hid (kN n H = 0) := kN_wrong hr'
    clear hr
    go_enter Try.func17, Try.ntmps17
    go_wp2_with fail
    refine (RC.out _ BX.out).mono ?_
    rintro e u1 ⟨rfl, b1⟩
    go_wp2_with fail
    go_ret
    rw [E.out]
    exact ⟨_, rfl, ⟨none, 0, 0, 0, rfl, Nat.le_refl _, fun h => by omega, fun i hi => by omega⟩, bel_trans BX.out b1, fun h => by omega⟩
  have hR := (fitsB_iff _ _).1 hr
  obtain ⟨N, rfl⟩ : ∃ N : Nat, H = N := ⟨H.toNat, by omega⟩
  have E : Hid (kN n (N : Int) = N) := by show kN n (N : Int) = N; rw [kN_right hr]; omega
  have n1 : 1 ≤ n := by omega
  have n2 : n ≤ 256 := by omega
  have N1 : N ≤ 7 := by omega
  have N0 : 1 ≤ N := by omega
  clear hR
  go_enter Try.func17, Try.ntmps17
  go_wp2_with fail
  refine (RC.out _ BX.out).mono ?_
  rintro e u1 ⟨rfl, b1⟩
  have K1 : Hid (Blk u1 w.heap.size 25 #[.int .u64 S, .int .i64 (N : Int), .slice A n cap]) := KX.out.since b1
  have B1 : Hid (Below w.heap.size w u1) := bel_trans BX.out b1
  have c1 : u1.cell? ⟨w.heap.size, 1, none⟩ = some (.int .i64 (N : Int)) := K1.out.cell 1
  have hmk : (Instr.makeSlice 38 (.int .i64 (N : Int)) (.int .i64 (N : Int))).run Try.prog u1 = .ok (.slice (some ⟨u1.heap.size, 0, none⟩) N N) (u1.alloc (.cells (madeCells #[.int .i64 0] N) 3)) := run_make_full (P := Try.prog) 38 3 (.int .i64 0) 8 Try.underlying38 info3 rfl .i64 .i64 N (by omega) (by omega) u1
  have R0 : Hid ((u1.alloc (.cells (madeCells #[.int .i64 0] N) 3)).rowIs u1.heap.size 3 N (fun j => if j < 0 then .int .i64 (placeN S s n j : Int) else .int .i64 0)) := World.rowIs.congr (World.rowIs_made u1 (.int .i64 0) N 3) fun c hc => by simp
  have K2 : Hid (Blk (u1.alloc (.cells (madeCells #[.int .i64 0] N) 3)) w.heap.size 25 #[.int .u64 S, .int .i64 (N : Int), .slice A n cap]) := K1.out.alloc _
  have B2 : Hid (Below w.heap.size w (u1.alloc (.cells (madeCells #[.int .i64 0] N) 3))) := B1.out.alloc B1.out.size _
  have LT : Hid (w.heap.size < u1.heap.size) := K1.out.lt
  clear b1 RC BX KX K1
  go_wp2_with fail
  clear hmk c1
  obtain ⟨g, hg⟩ : ∃ g, g = u1.heap.size := ⟨_, rfl⟩
  have hgw : w.heap.size < g := by rw [hg]; exact LT.out
  rw [← hg] at R0 ⊢
  go_loopg [15] N (fun gk i wr => ∃ k : Nat, (gk = N - k ∧ k ≤ N ∧ Below w.heap.size w wr ∧ Blk wr w.heap.size 25 #[.int .u64 S, .int .i64 (N : Int), .slice A n cap] ∧ wr.rowIs g 3 N (fun j => if j < k then .int .i64 (placeN S s n j : Int) else .int .i64 0)) ∧ i = .int .i64 (k : Int))
  case atStart => exact ⟨0, ⟨rfl, by omega, B2.out, K2.out, R0.out⟩, rfl⟩
  case round =>
    clear R0 K2 B2 hg
    obtain ⟨k, ⟨hg, hk, hB, hX, hr⟩, rfl⟩ := hrel
    have HK : Hid (gk = N - k ∧ Below w.heap.size w wr ∧ Blk wr w.heap.size 25 #[.int .u64 S, .int .i64 (N : Int), .slice A n cap] ∧ wr.rowIs g 3 N (fun j => if j < k then .int .i64 (placeN S s n j : Int) else .int .i64 0)) := ⟨hg, hB, hX, hr⟩
    clear hg hB
    by_cases hlt : k < N
    · have ck : wr.cell? ⟨g, k, none⟩ = some (.int .i64 0) := by have := World.rowIs.cell hr (i := k) (by omega); simpa using this
      have fk : wr.frozen? ⟨g, k, none⟩ = false := World.rowIs.frozen hr k
      have x0 : wr.cell? ⟨w.heap.size, 0, none⟩ = some (.int .u64 S) := hX.cell 0
      have x2 : wr.cell? ⟨w.heap.size, 2, none⟩ = some (.slice A n cap) := hX.cell 2
      have b0 : (0 : Int) ≤ (k : Int) := by omega
      have b1 : (k : Int) < (N : Int) := by omega
      have ur := rowF_U S k
      obtain ⟨P, hP⟩ : ∃ P, P = placeN S s n k := ⟨_, rfl⟩
      have HP : Hid (cellF (rowF S k) s n = (P : Int)) := by rw [hP]; exact placeN_eq S s n k n1
      have HP2 : Hid (P = placeN S s n k) := hP
      clear hr hX hP
      go_wp2_with fail
      go_region_with (first | (go_at_call 30; refine (row_any S k _ uS (by omega)).mono ?_; rintro e w'' ⟨rfl, rfl⟩) | (go_at_call 29; refine (cell_any _ s n _ ur (by omega) (by omega) (by omega)).mono ?_; rintro e w'' ⟨rfl, rfl⟩; rw [HP.out]))
      all_goals go_wp2_with fail
      all_goals go_roundg (N - (k + 1))
      all_goals first | (have := HK.out.1; omega) | exact ⟨k + 1, ⟨rfl, by omega, (HK.out.2.1.setCell (p := ⟨g, k, none⟩) (by show w.heap.size ≤ g; omega) _).drew, (HK.out.2.2.1.other (a := ⟨g, k, none⟩) (by show w.heap.size ≠ g; omega) _).drew, by rw [HP2.out]; exact place_step HK.out.2.2.2⟩, by go_num⟩
    · have e : k = N := by omega
      have HE : Hid (k = N) := e
      have b1 : ¬ (k : Int) < (N : Int) := by omega
      clear e hr hX hlt
      go_wp2_with fail
      go_ret
      obtain ⟨_, h1, h2, h3⟩ := HK.out
      rw [HE.out] at h3
      rw [E.out]
      exact ⟨_, rfl, ⟨_, N, g, 0, rfl, Nat.le_refl _, fun _ => rfl, fun i hi => by have := World.rowIs.cell h3 (i := i) hi; simpa [hi] using this⟩, h1, fun _ => ⟨g, 0, N, rfl, by omega⟩⟩
theorem places_any (w : World) (x : Value) (S H : Int) (n : Nat) (B : Nat → Bool) (s : ByteArray) (h : FilterAt w x S H n B) (uS : U S) (hs : s.size ≤ 100000) :
    Calls Try.prog 17 #[x, .string s] w (GavePlaces w (kN n H) (placeN S s n)) :=
  (places_made w x S H n B s h uS hs).mono fun e w' ⟨v, h1, h2, h3, _⟩ => ⟨v, h1, h2, h3⟩
end Go.Proofs.Ytbnjicbmainopaa
