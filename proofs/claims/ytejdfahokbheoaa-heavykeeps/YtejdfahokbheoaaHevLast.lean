
/-
  Last, Check and New of layer 14 (heavy).
-/
import Derived.Test.YtejdfahokbheoaaHevRise
import Derived.Shelf.SlSortCmp.QuietGrown
namespace Go.Proofs.Ytejdfahokbheoaa
open Go.RowKit Hv Go.Deep
set_option linter.unusedVariables false
set_option linter.unusedSimpArgs false

/-- Two cells written. -/
def hput2 (w : World) (g : Nat) (a0 a1 : Value) : World := (w.setCell ⟨g, 0, none⟩ a0).setCell ⟨g, 1, none⟩ a1
theorem hput2_blk {w : World} {g : Nat} {t : TypeId} {x0 x1 : Value} (h : Blk w g t #[x0, x1]) (a0 a1 : Value) : Blk (hput2 w g a0 a1) g t #[a0, a1] := by
  have := (h.set 0 a0).set 1 a1
  simpa [hput2] using this
theorem hput2_below {Bd : Nat} {w wr : World} {g : Nat} (h : Below Bd w wr) (hg : Bd ≤ g) (a0 a1 : Value) : Below Bd w (hput2 wr g a0 a1) := (h.setCell (p := ⟨g, 0, none⟩) hg _).setCell (p := ⟨g, 1, none⟩) hg _
theorem hput2_heap (w : World) (g : Nat) (x y : Value) (q : Nat) (h : q ≠ g) : (hput2 w g x y).heap[q]? = w.heap[q]? := (Below.heap_setCell _ _ _ _ h).trans (Below.heap_setCell _ _ _ _ h)
theorem last_res (w : World) (g : Nat) (s : ByteArray) (c : Int) (v : Value) (h : Blk w g 30 #[.string s, .int .i64 c]) : w.cell? ⟨g, 0, none⟩ = some (.string s) ∧ w.cell? ⟨g, 1, none⟩ = some (.int .i64 c) := ⟨h.cell 0, h.cell 1⟩
set_option maxHeartbeats 800000 in
theorem last_some (w : World) (Bd p g b room n : Nat) (a : Nat → Itm) (F : ByteArray → Option Int) (h : HevAt w Bd p g b room n a F) (n0 : 0 < n) : Calls Try.prog 18 #[.pointer (some ⟨p, 0, none⟩)] w fun e w' => e = .returned (.tuple #[.agg #[.string (a 0).k, .int .i64 (a 0).c], .bool true]) ∧ Below w.heap.size w w' := by
  obtain ⟨s, hs⟩ : ∃ s, s = (a 0).k := ⟨_, rfl⟩
  obtain ⟨c, hc⟩ : ∃ c, c = (a 0).c := ⟨_, rfl⟩
  have HA : Hid (HevAt (w.alloc (.cells #[.string ⟨#[]⟩, .int .i64 0] 30)) Bd p g b room n a F) := h.since (bel_alloc _ _)
  have KB : Hid (Blk (w.alloc (.cells #[.string ⟨#[]⟩, .int .i64 0] 30)) w.heap.size 30 #[.string ⟨#[]⟩, .int .i64 0]) := Blk.new _ _ _
  have BE : Hid (Below w.heap.size w (w.alloc (.cells #[.string ⟨#[]⟩, .int .i64 0] 30))) := bel_alloc _ _
  have HS : Hid (s = (a 0).k ∧ c = (a 0).c) := ⟨hs, hc⟩
  have q1 : ((n : Int) == 0) = false := by simp; omega
  have NG : Hid (g ≠ w.heap.size ∧ 0 < room) := ⟨Nat.ne_of_lt h.gl, h.r1⟩
  rw [← hs, ← hc]
  clear h hs hc
  go_enter Try.func18, Try.ntmps18
  go_wp2_with fail
  refine (len_any _ Bd p g b room n a F HA.out).mono ?_
  rintro e u1 ⟨rfl, g1⟩
  have HA1 : Hid (HevAt u1 Bd p g b room n a F) := HA.out.grn g1
  have KB1 : Hid (Blk u1 w.heap.size 30 #[.string ⟨#[]⟩, .int .i64 0]) := KB.out.since g1.below
  have BE1 : Hid (Below w.heap.size w u1) := bel_trans BE.out g1.below
  clear g1 HA KB BE
  have k0 := HA1.out.c0
  have c0 : u1.cell? ⟨g, 0, none⟩ = some (.string s) := by rw [HS.out.1]; have := (HA1.out.row.cell NG.out.2).1; rwa [Nat.zero_mul] at this
  have c1 : u1.cell? ⟨g, 1, none⟩ = some (.int .i64 c) := by rw [HS.out.2]; have := (HA1.out.row.cell NG.out.2).2; rwa [Nat.zero_mul, Nat.zero_add] at this
  have d0 : u1.cell? ⟨w.heap.size, 0, none⟩ = some (.string ⟨#[]⟩) := KB1.out.cell 0
  have d1 : u1.cell? ⟨w.heap.size, 1, none⟩ = some (.int .i64 0) := KB1.out.cell 1
  have e0 := KB1.out.frozen 0
  have e1 := KB1.out.frozen 1
  have r0 : (0 : Int) < (room : Int) := by have := NG.out.2; omega
  go_wp2_with fail
  refine bodyPost_ret (v := .tuple #[.agg #[.string s, .int .i64 c], .bool true]) ?_ rfl ?_
  rotate_left
  · exact ⟨rfl, hput2_below BE1.out (Nat.le_refl _) _ _⟩
  have c3 := hput2_blk (t := 30) KB1.out (.string s) (.int .i64 c)
  have c30 := c3.cell 0
  have c31 := c3.cell 1
  change (results _ _).run _ (hput2 u1 w.heap.size (.string s) (.int .i64 c)) = .ok _ (hput2 u1 w.heap.size (.string s) (.int .i64 c))
  generalize hput2 u1 w.heap.size (.string s) (.int .i64 c) = W5 at c30 c31
  simp [results, Try.results18, go_sem, c30, c31]
set_option maxHeartbeats 800000 in
/-- .. of one that tells of no item. -/
theorem last_zero (w : World) (x : Value) (L : ∀ u, Below w.heap.size w u → Calls Try.prog 15 #[x] u fun e w' => e = .returned (.int .i64 0) ∧ Below u.heap.size u w') : Calls Try.prog 18 #[x] w fun e w' => e = .returned (.tuple #[.agg #[.string ⟨#[]⟩, .int .i64 0], .bool false]) ∧ Below w.heap.size w w' := by
  have KB : Hid (Blk (w.alloc (.cells #[.string ⟨#[]⟩, .int .i64 0] 30)) w.heap.size 30 #[.string ⟨#[]⟩, .int .i64 0]) := Blk.new _ _ _
  have BE : Hid (Below w.heap.size w (w.alloc (.cells #[.string ⟨#[]⟩, .int .i64 0] 30))) := bel_alloc _ _
  have LL := hid L
  clear L
  go_enter Try.func18, Try.ntmps18
  go_wp2_with fail
  refine (LL.out _ BE.out).mono ?_
  rintro e u1 ⟨rfl, g1⟩
  have KB1 : Hid (Blk u1 w.heap.size 30 #[.string ⟨#[]⟩, .int .i64 0]) := KB.out.since g1
  have BE1 : Hid (Below w.heap.size w u1) := bel_trans BE.out g1
  clear g1 KB BE
  have d0 : u1.cell? ⟨w.heap.size, 0, none⟩ = some (.string ⟨#[]⟩) := KB1.out.cell 0
  have d1 : u1.cell? ⟨w.heap.size, 1, none⟩ = some (.int .i64 0) := KB1.out.cell 1
  have e0 := KB1.out.frozen 0
  have e1 := KB1.out.frozen 1
  go_wp2_with fail
  refine bodyPost_ret (v := .tuple #[.agg #[.string ⟨#[]⟩, .int .i64 0], .bool false]) ?_ rfl ?_
  rotate_left
  · exact ⟨rfl, hput2_below BE1.out (Nat.le_refl _) _ _⟩
  have c3 := hput2_blk (t := 30) KB1.out (.string ⟨#[]⟩) (.int .i64 0)
  have c30 := c3.cell 0
  have c31 := c3.cell 1
  change (results _ _).run _ (hput2 u1 w.heap.size (.string ⟨#[]⟩) (.int .i64 0)) = .ok _ (hput2 u1 w.heap.size (.string ⟨#[]⟩) (.int .i64 0))
  generalize hput2 u1 w.heap.size (.string ⟨#[]⟩) (.int .i64 0) = W5 at c30 c31
  simp [results, Try.results18, go_sem, c30, c31]
theorem new_bad (w : World) (r : Int) (h : i64 r) (hb : r < 1 ∨ 64 < r) : Calls Try.prog 10 #[.int .i64 r] w fun e w' => e = .returned (.pointer none) ∧ w' = w := by
  unfold i64 at h
  by_cases h1 : r < 1
  · go_enter Try.func10, Try.ntmps10
    go_wp2_with fail
    go_ret
    exact ⟨rfl, rfl⟩
  · have h2 : 64 < r := hb.resolve_left h1
    have h3 : r > 64 := h2
    go_enter Try.func10, Try.ntmps10
    go_wp2_with fail
    go_ret
    exact ⟨rfl, rfl⟩
theorem run_make_two {P : Program} (t e : TypeId) (z : Value) (bytes : Nat) (ht : P.underlying t = some (.slice e)) (hinfo : (P.info? e).map (fun i => (i.zero, i.size, i.bytes)) = some (some z, 2, bytes))
    (n : Nat) (hbytes : bytes * n ≤ 281474976710656) (h63 : n < 4611686018427387904) (w : World) :
    (Instr.makeSlice t (.int .i64 (n : Int)) (.int .i64 (n : Int))).run P w = .ok (.slice (some ⟨w.heap.size, 0, none⟩) n n) (w.alloc (.cells (madeCells z.cells (n * 2)) e)) := by
  obtain ⟨i, hi, hzz⟩ := Option.map_eq_some_iff.1 hinfo
  simp only [Prod.mk.injEq] at hzz
  obtain ⟨hz, hs, hb⟩ := hzz
  have hb' : (i.bytes : Int) * (n : Int) ≤ 281474976710656 := by
    have h : ((i.bytes * n : Nat) : Int) ≤ 281474976710656 := by rw [hb]; omega
    rwa [Int.natCast_mul] at h
  have hr := run_make (P := P) w t e i z ht hi hz .i64 .i64 n n (by omega) (by omega) hb' (by omega)
  simp only [Int.toNat_natCast, hs] at hr
  exact hr
def zeroI : Nat → Itm := fun _ => ⟨⟨#[]⟩, 0⟩
theorem lCells_zero : ∀ n, lCells ((List.range n).map fun _ => (⟨⟨#[]⟩, 0⟩ : Itm)) = (madeCells #[.string ⟨#[]⟩, .int .i64 0] (n * 2)).toList := by
  intro n
  apply List.ext_getElem?
  intro t
  have l1 := lCells_len ((List.range n).map fun _ => (⟨⟨#[]⟩, 0⟩ : Itm))
  rw [List.length_map, List.length_range] at l1
  by_cases h : t < n * 2
  · have e : (madeCells #[.string ⟨#[]⟩, .int .i64 0] (n * 2)).toList[t]? = some ((#[.string ⟨#[]⟩, .int .i64 0] : Array Value)[t % 2]!) := by
      simp [madeCells, h]
    rw [e]
    have hi : ((List.range n).map fun _ => (⟨⟨#[]⟩, 0⟩ : Itm))[t / 2]? = some ⟨⟨#[]⟩, 0⟩ := by
      rw [List.getElem?_map, List.getElem?_range (by omega)]
      rfl
    obtain ⟨g1, g2⟩ := lCells_get _ _ _ hi
    rcases Nat.mod_two_eq_zero_or_one t with m | m
    · rw [show t / 2 * 2 = t by omega] at g1
      rw [g1, m]; rfl
    · rw [show t / 2 * 2 + 1 = t by omega] at g2
      rw [g2, m]; rfl
  · rw [List.getElem?_eq_none (by omega), List.getElem?_eq_none (by simp [madeCells]; omega)]
theorem rowL_made (w : World) (n : Nat) (hn : n ≤ 1000) : RowL (w.alloc (.cells (madeCells #[.string ⟨#[]⟩, .int .i64 0] (n * 2)) 30)) w.heap.size 30 (.slice (some ⟨w.heap.size, 0, none⟩) n n) n zeroI := by
  refine ⟨by rw [lCells_len, lstL_len], Or.inr ⟨_, n, _, rfl, Nat.le_refl _, blk_alloc_new w _, Nat.le_refl _, by unfold maxLen; omega, by simp [madeCells], ?_⟩⟩
  have := lCells_zero n
  unfold lstL zeroI
  rw [this, List.take_of_length_le (by simp [madeCells])]
set_option maxHeartbeats 800000 in
theorem new_ok (w : World) (room : Nat) (r1 : 1 ≤ room) (r64 : room ≤ 64) : Calls Try.prog 10 #[.int .i64 (room : Int)] w fun e w' => e = .returned (.pointer (some ⟨w.heap.size + 2, 0, none⟩)) ∧ HevAt w' w.heap.size (w.heap.size + 2) w.heap.size (w.heap.size + 1) room 0 zeroI (fun _ => none) ∧ Below w.heap.size w w' := by
  have hmk : (Instr.makeSlice 22 (.int .i64 (room : Int)) (.int .i64 (room : Int))).run Try.prog w = .ok (.slice (some ⟨w.heap.size, 0, none⟩) room room) (w.alloc (.cells (madeCells #[.string ⟨#[]⟩, .int .i64 0] (room * 2)) 30)) := run_make_two (P := Try.prog) 22 30 (.agg #[.string ⟨#[]⟩, .int .i64 0]) 24 Try.underlying22 infoHI0 room (by omega) (by omega) w
  have hmm : ∀ u : World, (Instr.makeMap 44 none).run Try.prog u = .ok (.map (some u.heap.size)) (u.alloc (.map #[] 0)) := fun u => rfl
  have RW := hid (rowL_made w room (by omega))
  have b1 : ¬ (room : Int) < 1 := by omega
  have b2 : ¬ (room : Int) > 64 := by omega
  go_enter Try.func10, Try.ntmps10
  go_wp2_with fail
  go_ret
  clear hmk hmm
  obtain ⟨X, hX⟩ : ∃ X, X = w.alloc (.cells (madeCells #[.string ⟨#[]⟩, .int .i64 0] (room * 2)) 30) := ⟨_, rfl⟩
  have BX : Below w.heap.size w X := by rw [hX]; exact bel_alloc _ _
  have zX : X.heap.size = w.heap.size + 1 := by rw [hX]; simp
  rw [← hX] at RW ⊢
  clear hX
  have B2 := BX.alloc (by omega) (.map #[] 0)
  have B3 := B2.alloc (by simp; omega) (.cells #[.slice (some ⟨w.heap.size, 0, none⟩) room room, .map (some (w.heap.size + 1))] 46)
  have M1 := mapN_made X
  rw [zX] at M1
  have K1 := Blk.new (X.alloc (.map #[] 0)) 46 #[.slice (some ⟨w.heap.size, 0, none⟩) room room, .map (some (w.heap.size + 1))]
  rw [show (X.alloc (.map #[] 0)).heap.size = w.heap.size + 2 by simp; omega] at K1
  exact ⟨rfl, ⟨K1, (RW.out.alloc _).alloc _, M1.of (Below.heap_alloc _ _ _ (by simp; omega)), by omega, Nat.le_refl _, by omega, by omega, by omega, by omega, r1, r64, by omega⟩, B3⟩
theorem check_nil (w : World) : Calls Try.prog 14 #[.pointer none] w fun e w' => e = .returned (.bool false) ∧ w' = w := by
  go_enter Try.func14, Try.ntmps14
  go_wp2_with fail
  go_ret
  exact ⟨rfl, rfl⟩
set_option maxHeartbeats 3200000 in
theorem check_any (w : World) (Bd p g b room n : Nat) (a : Nat → Itm) (F : ByteArray → Option Int) (m : List Itm) (h : HevL w Bd p g b room n a F m) (f : HeapF n a) :
    Calls Try.prog 14 #[.pointer (some ⟨p, 0, none⟩)] w fun e w' => e = .returned (.bool true) ∧ Below w.heap.size w w' := by
  have nr := h.at'.nr
  have r64 := h.at'.r64
  have HL := hid h
  have HF := hid f
  clear h f
  go_enter Try.func14, Try.ntmps14
  go_wp2_with fail
  refine (taken_any w Bd p g b room n a F HL.out.at').mono ?_
  rintro e u1 ⟨rfl, g1⟩
  have HL1 := hid (HL.out.grn g1)
  have GR1 := hid g1
  clear g1 HL
  go_wp2_with fail
  go_loopg [12] n (fun gk v wr => ∃ k : Nat, (gk = n - k ∧ k ≤ n ∧ Grn u1 wr) ∧ v = .int .i64 (k : Int))
  case atStart => exact ⟨0, ⟨rfl, by omega, Grn.refl _⟩, rfl⟩
  case round =>
    obtain ⟨k, ⟨hg, hk, hG⟩, rfl⟩ := hrel
    have GR := hid hG
    have HG := hid hg
    clear hG hg
    by_cases kn : k < n
    · have bk : (k : Int) < (n : Int) := by omega
      have bk0 : (0 : Int) ≤ (k : Int) := by omega
      have bn : (n : Int) ≤ 64 := by omega
      have kr : k < room := by omega
      obtain ⟨s, hs⟩ : ∃ s, s = (a k).k := ⟨_, rfl⟩
      obtain ⟨c, hc⟩ : ∃ c, c = (a k).c := ⟨_, rfl⟩
      have HLw := hid (HL1.out.grn GR.out)
      have zs : s.size ≤ maxLen := by rw [hs]; exact HL1.out.keys k kn
      have HF1 : Hid (F s = some (k : Int)) := by show _ = _; rw [hs]; exact HL1.out.pl.1 k kn
      have c0 : wr.cell? ⟨g, k * 2, none⟩ = some (.string s) := by rw [hs]; exact (HLw.out.at'.row.cell kr).1
      have c1 : wr.cell? ⟨g, k * 2 + 1, none⟩ = some (.int .i64 c) := by rw [hc]; exact (HLw.out.at'.row.cell kr).2
      clear hs hc
      have KB : Hid (Blk (wr.alloc (.cells #[.string s, .int .i64 c] 30)) wr.heap.size 30 #[.string s, .int .i64 c]) := Blk.new _ _ _
      have GX : Hid (Grn u1 (wr.alloc (.cells #[.string s, .int .i64 c] 30))) := GR.out.alloc _
      have HLX : Hid (HevL (wr.alloc (.cells #[.string s, .int .i64 c] 30)) Bd p g b room n a F m) := HL1.out.grn GX.out
      go_wp2_with fail
      clear c0 c1 HLw GR
      generalize wr.alloc (.cells #[.string s, .int .i64 c] 30) = X at KB GX HLX ⊢
      have K1 : ∀ q os, (Go.Sort.grow (X.drewN q) os).cell? ⟨p, 1, none⟩ = some (.map (some b)) := fun q os => (HLX.out.grn (grn_at X q os)).at'.c1
      have K2 : ∀ q os, (Go.Sort.grow (X.drewN q) os).cell? ⟨wr.heap.size, 0, none⟩ = some (.string s) := fun q os => grn_all (KB.out.cell 0) q os
      have K3 : ∀ q os, (Instr.lookup 44 (.map (some b)) (.string s) true).run Try.prog (Go.Sort.grow (X.drewN q) os) = .ok (.tuple #[.int .i64 (k : Int), .bool true]) (Go.Sort.grow (X.drewN q) os) := fun q os => by
        have := (HLX.out.grn (grn_at X q os)).at'.map.look s zs
        rw [HF1.out] at this
        exact this
      have mx := mixed
      go_quiet_grown (fail)
      clear K1 K2 K3 mx
      have GY : Hid (Grn u1 (Go.Sort.grow (X.drewN nq) osq)) := GX.out.trans (grn_at X nq osq)
      generalize Go.Sort.grow (X.drewN nq) osq = Y at GY ⊢
      have HLY := hid (HL1.out.grn GY.out)
      clear HLX KB GX
      have q1 : ((k : Int) != (k : Int)) = false := by simp
      by_cases k0 : 0 < k
      · have kz : (k : Int) > 0 := by omega
        have hp : par k < n := by unfold par; omega
        have hpk : par k ≠ k := by unfold par; omega
        have AB : Hid (∀ u, Calls Try.prog 28 #[.int .i64 (k : Int)] u fun e w' => e = .returned (.int .i64 ((par k : Nat) : Int)) ∧ w' = u) := fun u => above_any u k (by omega) k0
        have BH : Hid (Calls Try.prog 27 #[.pointer (some ⟨p, 0, none⟩), .int .i64 (k : Int), .int .i64 ((par k : Nat) : Int)] Y fun e w' => e = .returned (.bool (aheadB (a (par k)) (a k))) ∧ Grn Y w') := behind_any Y Bd p g b room n a F HLY.out.at' k (par k) (by omega) (by omega)
        have eB : aheadB (a (par k)) (a k) = false := by
          cases e : aheadB (a (par k)) (a k) with
          | false => rfl
          | true => exact absurd (HF.out k k0 kn) (ahead_asymm ((aheadB_iff _ _).1 e))
        rw [eB] at BH
        obtain ⟨q, hq⟩ : ∃ q, q = par k := ⟨_, rfl⟩
        rw [← hq] at AB BH
        clear eB hq hp hpk HLY
        go_wp2_with fail
        refine (AB.out _).mono ?_
        rintro e v1 ⟨rfl, rfl⟩
        go_wp2_with fail
        refine BH.out.mono ?_
        rintro e v2 ⟨rfl, g2⟩
        have GZ := hid (GY.out.trans g2)
        clear g2
        go_wp2_with fail
        go_roundg (n - (k + 1))
        case rel => exact ⟨k + 1, ⟨rfl, by omega, GZ.out⟩, by go_num⟩
        case measure => have := HG.out; omega
      · have kz : ¬ (k : Int) > 0 := by omega
        clear HLY
        go_wp2_with fail
        go_roundg (n - (k + 1))
        case rel => exact ⟨k + 1, ⟨rfl, by omega, GY.out⟩, by go_num⟩
        case measure => have := HG.out; omega
    · have bk : ¬ (k : Int) < (n : Int) := by omega
      go_wp2_with fail
      go_ret
      exact ⟨rfl, (GR1.out.trans GR.out).below⟩
end Go.Proofs.Ytejdfahokbheoaa
