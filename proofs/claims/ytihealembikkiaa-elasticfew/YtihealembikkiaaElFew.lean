
/-
  ElasticFew, over the program's contracts: while no bucket has more unlike keys than room each key is told as it came, and nothing is light.
-/
import Derived.Test.YtihealembikkiaaElAwake
namespace Go.Proofs.Ytihealembikkiaa
open Go.RowKit Fm Bl Lt El L2 L10 L14 Go.Deep
set_option linter.unusedVariables false
set_option maxRecDepth 20000

theorem cntK_pos {q : Nat → ByteArray} {P : ByteArray → Bool} : ∀ (t j : Nat), j < t → P (q j) = true → 0 < cntK q P t
  | 0, j, h, _ => by omega
  | t + 1, j, h, e => by
    rw [cntK]
    have := cntK_nn q P t
    by_cases z : j = t
    · subst z
      rw [if_pos e]; omega
    · have := cntK_pos t j (by omega) e
      split <;> omega
theorem feed_apart {N room : Nat} {votes : Int} {pl : ByteArray → Nat} {q : Nat → ByteArray} (r1 : 1 ≤ room) : ∀ (t : Nat), t ≤ 1000000 → (∀ i, i < t → pl (q i) < N) → (∀ i, i < t → newK q pl (pl (q i)) (i + 1) ≤ room) → AllApart pl q t (feedS N room votes pl q t)
  | 0, _, _, _ => apart_start pl q
  | t + 1, ht, h, hr => by
    have i0 := feed_inv (votes := votes) (N := N) (pl := pl) (q := q) r1 t (by omega) fun i hi => h i (by omega)
    obtain ⟨st', e, i⟩ := inv_step (votes := votes) i0 r1 (h t (by omega)) (by omega)
    rw [feedS, e]
    exact apart_step i0 (feed_apart r1 t (by omega) (fun i hi => h i (by omega)) fun i hi => hr i (by omega)) e (hr t (by omega)) (h t (by omega))
theorem run_make_two {P : Program} (t e : TypeId) (z : Value) (bytes : Nat) (ht : P.underlying t = some (.slice e)) (hinfo : (P.info? e).map (fun i => (i.zero, i.size, i.bytes)) = some (some z, 2, bytes))
    (n : Nat) (hbytes : bytes * n ≤ 281474976710656) (h63 : n ≤ 9223372036854775807) (w : World) :
    (Instr.makeSlice t (.int .i64 (n : Int)) (.int .i64 (n : Int))).run P w = .ok (.slice (some ⟨w.heap.size, 0, none⟩) n n) (w.alloc (.cells (madeCells z.cells (n * 2)) e)) := by
  obtain ⟨i, hi, hzz⟩ := Option.map_eq_some_iff.1 hinfo
  simp only [Prod.mk.injEq] at hzz
  obtain ⟨hz, hs, hb⟩ := hzz
  have hb' : (i.bytes : Int) * (n : Int) ≤ 281474976710656 := by
    have h : ((i.bytes * n : Nat) : Int) ≤ 281474976710656 := by rw [hb]; omega
    rwa [Int.natCast_mul] at h
  have hr := run_make (P := P) w t e i z ht hi hz .i64 .i64 n n (by omega) (by omega) hb' (by omega)
  simp only [Int.toNat_natCast, hs] at hr
  exact hr
theorem bkts_made (u : World) (n : Nat) : BktsE (u.alloc (.cells (madeCells #[.slice none 0 0, .int .i64 0] (n * 2)) 74)) (.slice (some ⟨u.heap.size, 0, none⟩) n n) (List.replicate n ⟨[], 0⟩) := by
  refine ⟨_, n, u.heap.size, 0, by simp, by simp, fun _ => rfl, fun i x hi => ?_⟩
  rw [List.getElem?_replicate] at hi
  split at hi
  · cases hi
    have cs := fun j => cell_of_row (u.alloc (.cells (madeCells #[.slice none 0 0, .int .i64 0] (n * 2)) 74)) u.heap.size j _ 74 (0, 0) (blk_alloc_new u _)
    refine ⟨.slice none 0 0, ?_, ?_, ents_none _⟩
    · rw [Nat.zero_add, cs]
      simp [madeCells, show i * 2 < n * 2 by omega]
    · rw [Nat.zero_add, cs]
      have m1 : (i * 2 + 1) % 2 = 1 := by omega
      simp [madeCells, show i * 2 + 1 < n * 2 by omega, m1]
  · cases hi

theorem few_out (C : CtrE) (w : World) (S n room votes R c : Int) (lv : Value) (m : Nat) (Q : Nat → ByteArray) (uS : U S) (hn : I n) (hr : I room) (hv : I votes) (hR : I R) (hc : I c) (h : StrsAt w lv m Q) (hm : m ≤ 9223372036854775807) (hq : ∀ i, i < m → (Q i).size ≤ 9223372036854775807) (sh : shapeE n room votes R c = false) :
    Calls Try.prog 7 #[szv S n room votes R c, lv] w fun e w' => e = .returned (.bool true) ∧ Below w.heap.size w w' := by
  have BX : Hid (Below w.heap.size w (w.alloc (.cells #[.int .u64 S, .int .i64 n, .int .i64 room, .int .i64 votes, .int .i64 R, .int .i64 c] 60))) := bel_alloc _ _
  have FB := hidE fun u (b : Below w.heap.size w u) => fed_bad C u S n room votes R c lv m Q uS hn hr hv hR hc (h.keep (keep_of_below b)) hm hq sh
  have AW := hidE fun u => eawake_any C u
  clear h hn hr hv hR hc
  unfold szv at FB ⊢
  go_enter Try.func7, Try.ntmps7
  go_wp2_with fail
  refine (FB.out _ BX.out).mono ?_
  rintro e u2 ⟨rfl, b2⟩
  have B2 : Hid (Below w.heap.size w u2) := bel_trans BX.out b2
  clear b2 BX FB
  unfold elz
  go_wp2_with fail
  have B3 : Hid (Below w.heap.size w (u2.alloc (.cells #[.int .u64 0, .int .i64 0, .int .i64 0, .slice none 0 0, .int .u64 0, .int .i64 0, .slice none 0 0] 28))) := bel_trans B2.out (bel_alloc _ _)
  generalize u2.alloc (.cells #[.int .u64 0, .int .i64 0, .int .i64 0, .slice none 0 0, .int .u64 0, .int .i64 0, .slice none 0 0] 28) = u3 at B3 ⊢
  refine (AW.out u3).mono ?_
  rintro e u4 ⟨rfl, b4⟩
  go_wp2_with fail
  go_ret
  exact ⟨rfl, bel_trans B3.out b4⟩
theorem few_long (C : CtrE) (w : World) (S votes : Int) (n room R c : Nat) (lv : Value) (m : Nat) (Q : Nat → ByteArray) (uS : U S) (h : StrsAt w lv m Q) (hm : m ≤ 9223372036854775807) (hq : ∀ i, i < m → (Q i).size ≤ 9223372036854775807) (sh : shapeE n room votes R c = true) (hs : ¬ (m ≤ 300 ∧ ∀ i, i < m → (Q i).size ≤ 100)) :
    Calls Try.prog 7 #[szv S n room votes R c, lv] w fun e w' => e = .returned (.bool true) ∧ Below w.heap.size w w' := by
  have BX : Hid (Below w.heap.size w (w.alloc (.cells #[.int .u64 S, .int .i64 (n : Int), .int .i64 (room : Int), .int .i64 votes, .int .i64 (R : Int), .int .i64 (c : Int)] 60))) := bel_alloc _ _
  have FB := hidE fun u (b : Below w.heap.size w u) => fed_long C u S votes n room R c lv m Q uS (h.keep (keep_of_below b)) hm hq sh hs
  have AW := hidE fun u => eawake_any C u
  clear h hs
  unfold szv at FB ⊢
  go_enter Try.func7, Try.ntmps7
  go_wp2_with fail
  refine (FB.out _ BX.out).mono ?_
  rintro e u2 ⟨a0, c0, a1, c1, rfl, b2⟩
  have B2 : Hid (Below w.heap.size w u2) := bel_trans BX.out b2
  clear b2 BX FB
  go_wp2_with fail
  have B3 : Hid (Below w.heap.size w (u2.alloc (.cells #[.int .u64 S, .int .i64 (room : Int), .int .i64 votes, .slice a0 n c0, .int .u64 (rowF S 1), .int .i64 255, .slice a1 R c1] 28))) := bel_trans B2.out (bel_alloc _ _)
  generalize u2.alloc (.cells #[.int .u64 S, .int .i64 (room : Int), .int .i64 votes, .slice a0 n c0, .int .u64 (rowF S 1), .int .i64 255, .slice a1 R c1] 28) = u3 at B3 ⊢
  refine (AW.out u3).mono ?_
  rintro e u4 ⟨rfl, b4⟩
  go_wp2_with fail
  go_ret
  exact ⟨rfl, bel_trans B3.out b4⟩
/-- What the walk keeps. -/
structure FwIn (X wr : World) (n : Nat) (z : Nat → Int) : Prop where
  since : Below X.heap.size X wr
  row : RowN wr X.heap.size n z
theorem FwIn.next {X wr u : World} {n : Nat} {z : Nat → Int} (h : FwIn X wr n z) (b : Below wr.heap.size wr u) : FwIn X u n z := ⟨bel_trans h.since b, h.row.since b⟩
theorem FwIn.set {X wr : World} {n : Nat} {z : Nat → Int} (h : FwIn X wr n z) (p : Nat) (x : Int) : FwIn X (wr.setCell ⟨X.heap.size, p, none⟩ (.int .i64 x)) n (fun i => if i = p then x else z i) := ⟨h.since.setCell (p := ⟨X.heap.size, p, none⟩) (Nat.le_refl _) _, h.row.set p x⟩
set_option maxHeartbeats 8000000 in
set_option maxRecDepth 20000 in
theorem few_in (C : CtrE) (w : World) (S votes : Int) (n room R c : Nat) (lv : Value) (m : Nat) (Q : Nat → ByteArray) (uS : U S) (h : StrsAt w lv m Q) (hm : m ≤ 9223372036854775807) (hq : ∀ i, i < m → (Q i).size ≤ 9223372036854775807) (sh : shapeE n room votes R c = true) (hs : m ≤ 300 ∧ ∀ i, i < m → (Q i).size ≤ 100) :
    Calls Try.prog 7 #[szv S n room votes R c, lv] w fun e w' => e = .returned (.bool true) ∧ Below w.heap.size w w' := by
  have BX : Hid (Below w.heap.size w (w.alloc (.cells #[.int .u64 S, .int .i64 (n : Int), .int .i64 (room : Int), .int .i64 votes, .int .i64 (R : Int), .int .i64 (c : Int)] 60))) := bel_alloc _ _
  have KX : Hid (Blk (w.alloc (.cells #[.int .u64 S, .int .i64 (n : Int), .int .i64 (room : Int), .int .i64 votes, .int .i64 (R : Int), .int .i64 (c : Int)] 60)) w.heap.size 60 #[.int .u64 S, .int .i64 (n : Int), .int .i64 (room : Int), .int .i64 votes, .int .i64 (R : Int), .int .i64 (c : Int)]) := Blk.new _ _ _
  have FB := hidE fun u (b : Below w.heap.size w u) => fed_ok C u S votes n room R c lv m Q uS (h.keep (keep_of_below b)) hm hq sh hs
  have AW := hidE fun u => eawake_any C u
  have SA := hidE h
  have sh2 := sh
  rw [shapeE_iff] at sh2
  have R7 : R ≤ 7 := by omega
  have c1' : 1 ≤ c := by omega
  have c256 : c ≤ 256 := by omega
  have m300 := hs.1
  have n1' : 1 ≤ n := by omega
  have n256 : n ≤ 256 := by omega
  have r8 : room ≤ 8 := by omega
  have HQ := hidE hs.2
  -- what is told
  obtain ⟨pl, hpl⟩ : ∃ pl : ByteArray → Nat, pl = fun s => placeN S s n 0 := ⟨_, rfl⟩
  have plt : ∀ k, pl k < n := fun k => by rw [hpl]; exact placeN_lt S k n 0 (by omega)
  have inv := feed_inv (votes := votes) (pl := pl) (room := room) (q := Q) (N := n) (by omega) m (by omega) fun i _ => plt _
  have so := feed_short (N := n) (room := room) (votes := votes) (pl := pl) (q := Q) m hs.2
  have ap0 := feed_apart (votes := votes) (pl := pl) (room := room) (q := Q) (N := n) (by omega) m (by omega) fun i _ => plt _
  have FF : fedF S votes n room R c Q m = elF S room votes (feedS n room votes pl Q m).bs R c (lightZ (rowF S 1) 255 c (feedS n room votes pl Q m).li) := by rw [hpl]; rfl
  generalize feedS n room votes pl Q m = st at inv so FF ap0
  have ok : OkP 255 R c (lightZ (rowF S 1) 255 c st.li) := lightZ_ok (ok_zero sh) fun x mm => (inv.light x mm).1
  have rt : RightE (elF S room votes st.bs R c (lightZ (rowF S 1) 255 c st.li)) := by
    have := inv
    rw [hpl] at this
    exact inv_right this sh (by omega) ok
  have AP : Hid ((∀ p, newK Q pl p m ≤ room) → AllApart pl Q m st) := fun h => ap0 fun i hi => Nat.le_trans (newK_mono Q pl _ (by omega)) (h _)
  have GT : Hid (AllApart pl Q m st → ∀ u x (j : Nat), j < m → ElAt u x (fedF S votes n room R c Q m) → Calls Try.prog 12 #[x, .string (Q j)] u fun e w' => e = .returned (.tuple #[.int .i64 (cntK Q (fun k => decide (k = Q j)) m), .int .i64 (cntK Q (fun k => decide (k = Q j)) m), .bool true, .bool false]) ∧ Below u.heap.size u w') := fun ap u x j hj hx => by
    rw [FF] at hx
    obtain ⟨b, hb⟩ : ∃ b, st.bs[pl (Q j)]? = some b := ⟨_, List.getElem?_eq_getElem (by rw [inv.len]; exact plt _)⟩
    have hb2 := hb
    rw [hpl] at hb2
    exact C.get_ok u x S room votes st.bs R c _ (Q j) b _ _ _ _ hx uS rt so (HQ.out j hj) (by rw [inv.len]; exact hb2) (apart_told inv ap hb (cntK_pos m j hj (by simp)) _)
  have ZZ : Hid (AllApart pl Q m st → ∀ u x, ElAt u x (fedF S votes n room R c Q m) → ∃ bv rv, x = elv (elF S room votes st.bs R c (fun _ _ => 0)) bv rv ∧ RowsI u rv R (fun _ => c) (fun _ _ => 0)) := fun ap u x hx => by
    rw [FF, ap.1] at hx
    obtain ⟨bv, rv, e, _, hr⟩ := hx
    exact ⟨bv, rv, e, hr⟩
  have MN : Hid (∀ u (t : Nat) (v : Value) s, t ≤ m → StrsAt u v t Q → Calls Try.prog 24 #[v, .string s] u fun e w' => e = .returned (.int .i64 (cntK Q (fun k => decide (k = s)) t)) ∧ w' = u) := fun u t v s ht hu => emany_any u v t Q s hu (by omega)
  have hmkB : ∀ u : World, (Instr.makeSlice 29 (.int .i64 (n : Int)) (.int .i64 (n : Int))).run Try.prog u = .ok (.slice (some ⟨u.heap.size, 0, none⟩) n n) (u.alloc (.cells (madeCells #[.slice none 0 0, .int .i64 0] (n * 2)) 74)) := fun u => run_make_two (P := Try.prog) 29 74 (.agg #[.slice none 0 0, .int .i64 0]) 32 Try.underlying29 infoRB0 n (by omega) (by omega) u
  have PL : Hid (∀ (u v : World) (s : ByteArray), s.size ≤ 100 → Below (u.alloc (.cells (madeCells #[.slice none 0 0, .int .i64 0] (n * 2)) 74)).heap.size (u.alloc (.cells (madeCells #[.slice none 0 0, .int .i64 0] (n * 2)) 74)) v → Calls Try.prog 26 #[.agg #[.int .u64 S, .int .i64 0, .int .i64 0, .slice (some ⟨u.heap.size, 0, none⟩) n n, .int .u64 0, .int .i64 0, .slice none 0 0], .string s] v fun e w' => e = .returned (.int .i64 (pl s : Int)) ∧ Below u.heap.size u w') := fun u v s h1 bv => by
    refine (eplace_any v _ ⟨S, 0, 0, List.replicate n ⟨[], 0⟩, 0, 0, 0, fun _ => 0, fun _ _ => 0⟩ s ⟨_, _, rfl, (bkts_made u n).keep (keep_of_below bv), ⟨none, 0, 0, 0, fun _ => .slice none 0 0, rfl, Nat.le_refl _, fun (h : 0 < 0) => absurd h (by omega), fun r (h : r < 0) => absurd h (by omega)⟩⟩ uS (by omega) (by show 1 ≤ (List.replicate n _).length; rw [List.length_replicate]; omega) (by show (List.replicate n _).length ≤ 1000; rw [List.length_replicate]; omega)).mono ?_
    rintro e w' ⟨rfl, b⟩
    refine ⟨?_, bel_trans (bel_trans (bel_alloc _ _) bv) b⟩
    show Ending.returned (.int .i64 (placeN S s (List.replicate n _).length 0 : Int)) = _
    rw [List.length_replicate, hpl]
  have PT : Hid (∀ k, pl k < n) := plt
  clear hs sh sh2 inv so ok rt FF ap0 plt hpl
  obtain ⟨A, cap, lb, lo', rfl, hcap, hA, hL⟩ := h
  have HA := hidE hA
  have HL := hidE hL
  clear hA hL
  unfold szv at FB ⊢
  go_enter Try.func7, Try.ntmps7
  go_wp2_with fail
  refine (FB.out _ BX.out).mono ?_
  rintro e u2 ⟨a0, c0, a1, c1, rfl, hX, b2⟩
  have B2 : Hid (Below w.heap.size w u2) := bel_trans BX.out b2
  have K2 : Hid (Blk u2 w.heap.size 60 #[.int .u64 S, .int .i64 (n : Int), .int .i64 (room : Int), .int .i64 votes, .int .i64 (R : Int), .int .i64 (c : Int)]) := KX.out.since b2
  have X2 := hidE (hX.at)
  clear b2 BX FB KX hX
  obtain ⟨X, hX⟩ : ∃ X, X = u2.alloc (.cells #[.int .u64 S, .int .i64 (room : Int), .int .i64 votes, .slice a0 n c0, .int .u64 (rowF S 1), .int .i64 255, .slice a1 R c1] 28) := ⟨_, rfl⟩
  have zX : X.heap.size = u2.heap.size + 1 := by rw [hX]; simp
  have hmk : (Instr.makeSlice 57 (.int .i64 (n : Int)) (.int .i64 (n : Int))).run Try.prog (u2.alloc (.cells #[.int .u64 S, .int .i64 (room : Int), .int .i64 votes, .slice a0 n c0, .int .u64 (rowF S 1), .int .i64 255, .slice a1 R c1] 28)) = .ok (.slice (some ⟨u2.heap.size + 1, 0, none⟩) n n) ((u2.alloc (.cells #[.int .u64 S, .int .i64 (room : Int), .int .i64 votes, .slice a0 n c0, .int .u64 (rowF S 1), .int .i64 255, .slice a1 R c1] 28)).alloc (.cells (madeCells #[.int .i64 0] n) 3)) := by
    have e := run_make_full (P := Try.prog) 57 3 (.int .i64 0) 8 Try.underlying57 info3 rfl .i64 .i64 n (by omega) (by omega) X
    rw [zX, hX] at e
    exact e
  have HZX := hidE zX
  have z1 : (u2.alloc (.cells #[.int .u64 S, .int .i64 (room : Int), .int .i64 votes, .slice a0 n c0, .int .u64 (rowF S 1), .int .i64 255, .slice a1 R c1] 28)).cell? ⟨w.heap.size, 1, none⟩ = some (.int .i64 (n : Int)) := (K2.out.alloc _).cell 1
  have bn1 : ¬ (n : Int) < 1 := by omega
  have bn2 : ¬ (n : Int) > 256 := by omega
  have HXX := hidE hX
  clear zX hX
  go_wp2_with fail
  clear hmk z1
  rw [← HXX.out, ← HZX.out]
  have BX : Hid (Below w.heap.size w X) := by show Below _ _ X; rw [HXX.out]; exact bel_trans B2.out (bel_alloc _ _)
  have ZX : Hid (Blk X w.heap.size 60 #[.int .u64 S, .int .i64 (n : Int), .int .i64 (room : Int), .int .i64 votes, .int .i64 (R : Int), .int .i64 (c : Int)]) := by show Blk X _ _ _; rw [HXX.out]; exact K2.out.alloc _
  have YX : Hid (Blk X u2.heap.size 28 #[.int .u64 S, .int .i64 (room : Int), .int .i64 votes, .slice a0 n c0, .int .u64 (rowF S 1), .int .i64 255, .slice a1 R c1]) := by show Blk X _ _ _; rw [HXX.out]; exact Blk.new _ _ _
  have XE : Hid (ElAt X (.agg #[.int .u64 S, .int .i64 (room : Int), .int .i64 votes, .slice a0 n c0, .int .u64 (rowF S 1), .int .i64 255, .slice a1 R c1]) (fedF S votes n room R c Q m)) := by show ElAt X _ _; rw [HXX.out]; exact X2.out.keep (keep_of_below (bel_alloc _ _))
  have IN : Hid (FwIn X (X.alloc (.cells (madeCells #[.int .i64 0] n) 3)) n (fun p => (newK Q pl p 0 : Int))) := ⟨bel_alloc _ _, row_made X n⟩
  clear HXX HZX B2 K2 X2
  generalize u2.heap.size = gs at YX ⊢
  go_loopg [46] m (fun gk i wr => ∃ t : Nat, (gk = m - t ∧ t ≤ m ∧ FwIn X wr n (fun p => (newK Q pl p t : Int)) ∧ ∀ p, newK Q pl p t ≤ room) ∧ i = .int .i64 (t : Int))
  case atStart => exact ⟨0, ⟨rfl, by omega, IN.out, fun p => Nat.zero_le _⟩, rfl⟩
  case round =>
    clear IN
    obtain ⟨t, ⟨hgk, ht, hI, hN⟩, rfl⟩ := hrel
    have IK := hidE hI
    have HG := hidE hgk
    have NW := hidE hN
    clear hI hgk hN
    by_cases tz : t < m
    · have bt : (t : Int) < (m : Int) := by omega
      have bt0 : (0 : Int) ≤ (t : Int) := by omega
      have btc : (t : Int) ≤ (cap : Int) := by omega
      obtain rfl := HA.out (by omega)
      obtain ⟨kk, hkk⟩ : ∃ kk, kk = Q t := ⟨_, rfl⟩
      have cl : wr.cell? ⟨lb, lo' + t, none⟩ = some (.string kk) := by rw [hkk]; exact keep_of_below (bel_trans BX.out IK.out.since) _ _ (HL.out t tz)
      have ks : kk.size ≤ 100 := by rw [hkk]; exact HQ.out t tz
      have KK := hidE hkk
      have SP : Hid (StrsAt wr (.slice (some ⟨lb, lo', none⟩) t cap) t Q) := ⟨_, cap, lb, lo', rfl, by omega, fun _ => rfl, fun i hi => keep_of_below (bel_trans BX.out IK.out.since) _ _ (HL.out i (by omega))⟩
      have M1 := hidE (MN.out wr t _ kk (by omega) SP.out)
      obtain ⟨cc, hcc⟩ : ∃ cc, cc = cntK Q (fun k => decide (k = kk)) t := ⟨_, rfl⟩
      rw [← hcc] at M1
      have HC := hidE hcc
      have nk : ∀ p, newK Q pl p (t + 1) = newK Q pl p t + if cc = 0 ∧ pl kk = p then 1 else 0 := fun p => by rw [newK, ← hkk, ← hcc]
      have NK := hidE nk
      clear hkk hcc nk SP
      by_cases cz : cc = 0
      · have q : (cc == 0) = true := by simp [cz]
        obtain ⟨p, hp⟩ : ∃ p, p = pl kk := ⟨_, rfl⟩
        have pn : p < n := by rw [hp]; exact PT.out kk
        have bp : (p : Int) < (n : Int) := by omega
        have bp0 : (0 : Int) ≤ (p : Int) := by omega
        have P1 : Hid (∀ u v : World, Below (u.alloc (.cells (madeCells #[.slice none 0 0, .int .i64 0] (n * 2)) 74)).heap.size (u.alloc (.cells (madeCells #[.slice none 0 0, .int .i64 0] (n * 2)) 74)) v → Calls Try.prog 26 #[.agg #[.int .u64 S, .int .i64 0, .int .i64 0, .slice (some ⟨u.heap.size, 0, none⟩) n n, .int .u64 0, .int .i64 0, .slice none 0 0], .string kk] v fun e w' => e = .returned (.int .i64 (p : Int)) ∧ Below u.heap.size u w') := fun u v bv => by rw [hp]; exact PL.out u v kk (by omega) bv
        obtain ⟨k0, hk0⟩ : ∃ k0, k0 = newK Q pl p t := ⟨_, rfl⟩
        have k8 : k0 ≤ room := by rw [hk0]; exact NW.out p
        have HP := hidE (And.intro hp hk0)
        have nk2 : Hid (∀ j, newK Q pl j (t + 1) = if j = p then k0 + 1 else newK Q pl j t) := fun j => by
          rw [NK.out, hp, hk0]
          by_cases e : pl kk = j
          · rw [if_pos ⟨cz, e⟩, if_pos e.symm, ← e, hp]
          · rw [if_neg (fun z => e z.2), if_neg (fun z => e z.symm)]; rfl
        clear hp hk0 cz
        by_cases full : k0 + 1 > room
        · have bf : (k0 : Int) + 1 > (room : Int) := by omega
          go_wp2_with fail
          refine M1.out.mono ?_
          rintro e u5 ⟨rfl, rfl⟩
          clear cl
          have z0 : u5.cell? ⟨w.heap.size, 0, none⟩ = some (.int .u64 S) := (ZX.out.since IK.out.since).cell 0
          have z1 : u5.cell? ⟨w.heap.size, 1, none⟩ = some (.int .i64 (n : Int)) := (ZX.out.since IK.out.since).cell 1
          have za : (u5.alloc (.cells (madeCells #[.slice none 0 0, .int .i64 0] (n * 2)) 74)).cell? ⟨w.heap.size, 0, none⟩ = some (.int .u64 S) := (ZX.out.since (bel_trans IK.out.since (bel_alloc _ _))).cell 0
          go_wp2_with fail
          go_region_with (go_at_call 26; refine (P1.out u5 _ (Below.refl _ _).drew).mono ?_; rintro e u6 ⟨rfl, b6⟩; have I5 : Hid (FwIn X u6 n (fun p => (newK Q pl p t : Int))) := IK.out.next b6; have p0 : u6.cell? ⟨X.heap.size, p, none⟩ = some (.int .i64 (k0 : Int)) := (by rw [HP.out.2]; exact I5.out.row.cell pn); have p1 : u6.frozen? ⟨X.heap.size, p, none⟩ = false := I5.out.row.frozen p; have I6 : Hid (FwIn X (u6.setCell ⟨X.heap.size, p, none⟩ (.int .i64 ((k0 : Int) + 1))) n (fun i => if i = p then (k0 : Int) + 1 else (newK Q pl i t : Int))) := I5.out.set p _; have p2 : (u6.setCell ⟨X.heap.size, p, none⟩ (.int .i64 ((k0 : Int) + 1))).cell? ⟨X.heap.size, p, none⟩ = some (.int .i64 ((k0 : Int) + 1)) := (by have h2 := I6.out.row.cell pn; simp only [if_true] at h2; exact h2); have p3 : (u6.setCell ⟨X.heap.size, p, none⟩ (.int .i64 ((k0 : Int) + 1))).cell? ⟨w.heap.size, 2, none⟩ = some (.int .i64 (room : Int)) := (ZX.out.since I6.out.since).cell 2; clear b6)
          all_goals go_wp2_with fail
          all_goals go_region_with fail
          all_goals go_wp2_with fail
          all_goals refine (AW.out _).mono ?_
          all_goals rintro e u8 ⟨rfl, b8⟩
          all_goals go_wp2_with fail
          all_goals go_ret
          all_goals exact ⟨rfl, bel_trans BX.out (bel_trans I6.out.since (bel_trans (Below.refl _ _).drew b8))⟩
        · have bf : ¬ (k0 : Int) + 1 > (room : Int) := by omega
          go_wp2_with fail
          refine M1.out.mono ?_
          rintro e u5 ⟨rfl, rfl⟩
          clear cl
          have z0 : u5.cell? ⟨w.heap.size, 0, none⟩ = some (.int .u64 S) := (ZX.out.since IK.out.since).cell 0
          have z1 : u5.cell? ⟨w.heap.size, 1, none⟩ = some (.int .i64 (n : Int)) := (ZX.out.since IK.out.since).cell 1
          have za : (u5.alloc (.cells (madeCells #[.slice none 0 0, .int .i64 0] (n * 2)) 74)).cell? ⟨w.heap.size, 0, none⟩ = some (.int .u64 S) := (ZX.out.since (bel_trans IK.out.since (bel_alloc _ _))).cell 0
          go_wp2_with fail
          go_region_with (go_at_call 26; refine (P1.out u5 _ (Below.refl _ _).drew).mono ?_; rintro e u6 ⟨rfl, b6⟩; have I5 : Hid (FwIn X u6 n (fun p => (newK Q pl p t : Int))) := IK.out.next b6; have p0 : u6.cell? ⟨X.heap.size, p, none⟩ = some (.int .i64 (k0 : Int)) := (by rw [HP.out.2]; exact I5.out.row.cell pn); have p1 : u6.frozen? ⟨X.heap.size, p, none⟩ = false := I5.out.row.frozen p; have I6 : Hid (FwIn X (u6.setCell ⟨X.heap.size, p, none⟩ (.int .i64 ((k0 : Int) + 1))) n (fun i => if i = p then (k0 : Int) + 1 else (newK Q pl i t : Int))) := I5.out.set p _; have p2 : (u6.setCell ⟨X.heap.size, p, none⟩ (.int .i64 ((k0 : Int) + 1))).cell? ⟨X.heap.size, p, none⟩ = some (.int .i64 ((k0 : Int) + 1)) := (by have h2 := I6.out.row.cell pn; simp only [if_true] at h2; exact h2); have p3 : (u6.setCell ⟨X.heap.size, p, none⟩ (.int .i64 ((k0 : Int) + 1))).cell? ⟨w.heap.size, 2, none⟩ = some (.int .i64 (room : Int)) := (ZX.out.since I6.out.since).cell 2; clear b6)
          all_goals go_wp2_with fail
          all_goals go_region_with fail
          all_goals go_wp2_with fail
          all_goals go_roundg (m - (t + 1))
          all_goals first
            | (have := HG.out; omega)
            | exact ⟨t + 1, ⟨rfl, by omega, ⟨bel_trans I6.out.since (Below.refl _ _).drew, RowN.congr (I6.out.next (Below.refl _ _).drew).row fun j hj => by
              rw [nk2.out]
              by_cases e : j = p
              · rw [if_pos e, if_pos e]; simp
              · rw [if_neg e, if_neg e]⟩, fun j => by
              rw [nk2.out]
              by_cases e : j = p
              · rw [if_pos e]; omega
              · rw [if_neg e]; exact NW.out j⟩, by go_num⟩
      · have q : (cc == 0) = false := by simp [cz]
        have CZ := hidE cz
        clear cz
        go_wp2_with fail
        refine M1.out.mono ?_
        rintro e u5 ⟨rfl, rfl⟩
        clear cl
        go_wp2_with fail
        go_roundg (m - (t + 1))
        case measure => have := HG.out; omega
        case rel => exact ⟨t + 1, ⟨rfl, by omega, ⟨IK.out.since, IK.out.row.congr fun j hj => by rw [NK.out, if_neg fun z => CZ.out z.1]; rfl⟩, fun j => by rw [NK.out, if_neg fun z => CZ.out z.1]; exact NW.out j⟩, by go_num⟩
    · have bt : ¬ (t : Int) < (m : Int) := by omega
      obtain rfl : t = m := by omega
      have AA := hidE (AP.out NW.out)
      have HB : Hid (Below X.heap.size X wr) := IK.out.since
      clear IK HG NW AP PL hmkB
      go_wp2_with fail
      go_loopg [82] t (fun gk i wr => ∃ k : Nat, (gk = t - k ∧ k ≤ t ∧ Below X.heap.size X wr) ∧ i = .int .i64 (k : Int))
      case atStart => exact ⟨0, ⟨rfl, by omega, HB.out⟩, rfl⟩
      case round =>
        clear HB
        obtain ⟨k, ⟨hgk, hk, hB⟩, rfl⟩ := hrel
        have HB := hidE hB
        have HG := hidE hgk
        clear hB hgk
        by_cases kz : k < t
        · have bk : (k : Int) < (t : Int) := by omega
          have bk0 : (0 : Int) ≤ (k : Int) := by omega
          obtain rfl := HA.out (by omega)
          have G1 := hidE (GT.out AA.out wr _ k kz (XE.out.keep (keep_of_below HB.out)))
          have S1 : Hid (∀ u, Below wr.heap.size wr u → StrsAt u (.slice (some ⟨lb, lo', none⟩) t cap) t Q) := fun u b => SA.out.keep (keep_of_below (bel_trans BX.out (bel_trans HB.out b)))
          have M2 := hidE fun u (b : Below wr.heap.size wr u) => MN.out u t _ (Q k) (Nat.le_refl _) (S1.out u b)
          obtain ⟨kk, hkk⟩ : ∃ kk, kk = Q k := ⟨_, rfl⟩
          have cl : wr.cell? ⟨lb, lo' + k, none⟩ = some (.string kk) := by rw [hkk]; exact keep_of_below (bel_trans BX.out HB.out) _ _ (HL.out k kz)
          rw [← hkk] at G1 M2
          obtain ⟨cc, hcc⟩ : ∃ cc, cc = cntK Q (fun k => decide (k = kk)) t := ⟨_, rfl⟩
          rw [← hcc] at G1 M2
          have e1 : (cc != cc) = false := by simp
          clear hkk hcc S1
          have k70 : wr.cell? ⟨gs, 0, none⟩ = some (.int .u64 S) := (YX.out.since HB.out).cell 0
          have k71 : wr.cell? ⟨gs, 1, none⟩ = some (.int .i64 (room : Int)) := (YX.out.since HB.out).cell 1
          have k72 : wr.cell? ⟨gs, 2, none⟩ = some (.int .i64 votes) := (YX.out.since HB.out).cell 2
          have k73 : wr.cell? ⟨gs, 3, none⟩ = some (.slice a0 n c0) := (YX.out.since HB.out).cell 3
          have k74 : wr.cell? ⟨gs, 4, none⟩ = some (.int .u64 (rowF S 1)) := (YX.out.since HB.out).cell 4
          have k75 : wr.cell? ⟨gs, 5, none⟩ = some (.int .i64 255) := (YX.out.since HB.out).cell 5
          have k76 : wr.cell? ⟨gs, 6, none⟩ = some (.slice a1 R c1) := (YX.out.since HB.out).cell 6
          go_wp2_with fail
          refine G1.out.mono ?_
          rintro e u5 ⟨rfl, b5⟩
          have M3 := hidE (M2.out u5 b5)
          have HB5 : Hid (Below X.heap.size X u5) := bel_trans HB.out b5
          clear b5 M2 G1 cl
          clear k70 k71 k72 k73 k74 k75 k76
          go_wp2_with fail
          refine M3.out.mono ?_
          rintro e u6 ⟨rfl, rfl⟩
          go_wp2_with fail
          go_roundg (t - (k + 1))
          case measure => have := HG.out; omega
          case rel => exact ⟨k + 1, ⟨rfl, by omega, HB5.out⟩, by go_num⟩
        · have bk : ¬ (k : Int) < (t : Int) := by omega
          obtain ⟨bv, rv, ex, hr⟩ := ZZ.out AA.out _ _ XE.out
          have erv : rv = .slice a1 R c1 := by
            unfold elv at ex
            simp only [Value.agg.injEq, Array.mk.injEq, List.cons.injEq, and_true] at ex
            exact ex.2.2.2.2.2.2.symm
          obtain ⟨A1, cp1, b1, o1, V, hv, hc1, h3, h4⟩ := hr
          rw [erv] at hv
          simp only [Value.slice.injEq] at hv
          obtain ⟨rfl, _, rfl⟩ := hv
          have H3 := hidE h3
          have H4 := hidE h4
          have k76 : wr.cell? ⟨gs, 6, none⟩ = some (.slice a1 R c1) := (YX.out.since HB.out).cell 6
          clear h3 h4 ex erv
          go_wp2_with fail
          clear k76
          go_loopg [117] R (fun gk i wr => ∃ k : Nat, (gk = R - k ∧ k ≤ R ∧ Below X.heap.size X wr) ∧ i = .int .i64 (k : Int))
          case atStart => exact ⟨0, ⟨rfl, by omega, HB.out⟩, rfl⟩
          case round =>
            clear HB HG
            obtain ⟨r, ⟨hgk, hk, hB⟩, rfl⟩ := hrel
            have HB := hidE hB
            have HG := hidE hgk
            clear hB hgk
            by_cases rz : r < R
            · have bk : (r : Int) < (R : Int) := by omega
              have bk0 : (0 : Int) ≤ (r : Int) := by omega
              obtain rfl := H3.out (by omega)
              obtain ⟨v1, A2, cp2, b2, o2, v2, hc2, h5, h6⟩ := H4.out r rz
              rw [v2] at v1
              have v1 := keep_of_below HB.out _ _ v1
              have H5 := hidE h5
              have H6 := hidE h6
              clear v2 h5 h6
              go_wp2_with fail
              clear v1
              go_loopg [123] c (fun gk i wr => ∃ k : Nat, (gk = c - k ∧ k ≤ c ∧ Below X.heap.size X wr) ∧ i = .int .i64 (k : Int))
              case atStart => exact ⟨0, ⟨rfl, by omega, HB.out⟩, rfl⟩
              case round =>
                clear HB
                obtain ⟨j, ⟨hgj, hj, hB⟩, rfl⟩ := hrel
                have HB := hidE hB
                have HJ := hidE hgj
                clear hB hgj
                by_cases jz : j < c
                · have bj : (j : Int) < (c : Int) := by omega
                  have bj0 : (0 : Int) ≤ (j : Int) := by omega
                  obtain rfl := H5.out (by omega)
                  have v0 : wr.cell? ⟨b2, o2 + j, none⟩ = some (.int .i64 0) := keep_of_below HB.out _ _ (H6.out j jz)
                  go_wp2_with fail
                  go_roundg (c - (j + 1))
                  case measure => have := HJ.out; omega
                  case rel => exact ⟨j + 1, ⟨rfl, by omega, HB.out⟩, by go_num⟩
                · have bj : ¬ (j : Int) < (c : Int) := by omega
                  go_wp2_with fail
                  go_roundg (R - (r + 1))
                  case measure => have := HG.out; omega
                  case rel => exact ⟨r + 1, ⟨rfl, by omega, HB.out⟩, by go_num⟩
            · have bk : ¬ (r : Int) < (R : Int) := by omega
              go_wp2_with fail
              refine (AW.out _).mono ?_
              rintro e u8 ⟨rfl, b8⟩
              go_wp2_with fail
              go_ret
              exact ⟨rfl, bel_trans BX.out (bel_trans HB.out b8)⟩
end Go.Proofs.Ytihealembikkiaa
