
/-
  How a heap lies in memory (layer 14): a struct with a row of items and a map of places; what only reads it: above, taken, Len, behind, Get.
-/
import Derived.Test.YtejdfahokbheoaaHevCmp
import Derived.Test.YtejdfahokbheoaaHevStd
import Derived.Test.YtejdfahokbheoaaHevOwn
import Derived.Test.YtejdfahokbheoaaHevMap
import Derived.Test.YtejdfahokbheoaaHevHeap
import Derived.BigQuiet
namespace Go.Proofs.Ytejdfahokbheoaa
open Go.RowKit Hv Go.Deep Go.Maps Go.ChangeMaps Go.WideMaps
set_option linter.unusedVariables false

/-- The block b is a map that reads so, of just n entries. -/
def MapN (w : World) (b n : Nat) (F : ByteArray → Option Int) : Prop := ∃ D : DataW Unit, w.ownsMap Try.prog 9 (plainElem Try.prog 3) b n D ∧ ReadsF D F ∧ Maps.size D = n
theorem MapN.f {w : World} {b n : Nat} {F : ByteArray → Option Int} (h : MapN w b n F) : MapF w b n F := by obtain ⟨D, h1, h2, _⟩ := h; exact ⟨D, h1, h2⟩
theorem MapN.lt {w : World} {b n : Nat} {F : ByteArray → Option Int} (h : MapN w b n F) : b < w.heap.size := h.f.lt
theorem MapN.of {w w' : World} {b n : Nat} {F : ByteArray → Option Int} (h : MapN w b n F) (e : w'.heap[b]? = w.heap[b]?) : MapN w' b n F := by
  obtain ⟨D, ⟨es, clock, hb, r⟩, h2, h3⟩ := h
  exact ⟨D, ⟨es, clock, by rw [e]; exact hb, r⟩, h2, h3⟩
theorem mapN_made (w : World) : MapN (w.alloc (.map #[] 0)) w.heap.size 0 (fun _ => none) := ⟨_, World.ownsMap_made w _ _ _, readsF_none, rfl⟩
/-- As many as there are. -/
theorem ownsMap_tight {P : Program} {k : TypeId} {R : Value → Option (DataW Unit × List MemPlace)} {w : World} {b n : Nat} {D : DataW Unit} (h : w.ownsMap P k R b n D) : w.ownsMap P k R b (Maps.size D) D := by
  obtain ⟨es, clock, hb, F, hs, rfl⟩ := h
  refine ⟨es, clock, hb, F, ?_, rfl⟩
  simp [Maps.size, length_sorted]
theorem MapN.len {w : World} {b n : Nat} {F : ByteArray → Option Int} (h : MapN w b n F) (ty : TypeId) : (Builtin.len_ #[44] ty #[.map (some b)]).run Try.prog w = .ok (.int .i64 (n : Int)) w := by
  obtain ⟨D, h1, h2, h3⟩ := h
  rw [h1.len Try.underlying44 ty, h3]
/-- What a store makes of the number of entries. -/
def putN (F : ByteArray → Option Int) (s : ByteArray) (n : Nat) : Nat := if (F s).isSome then n else n + 1
theorem MapN.store {w : World} {b n : Nat} {F : ByteArray → Option Int} (h : MapN w b n F) (hn : n < maxLen) (s : ByteArray) (hs : s.size ≤ maxLen) (c : Int) (hc : (Lit.int .i64 c).wf = true) :
    ∃ w', (Instr.mapUpdate 44 (.map (some b)) (.string s) (.int .i64 c)).run Try.prog w = .ok () w' ∧ MapN w' b (putN F s n) (setF F s c) ∧ w.mapTurned w' b := by
  obtain ⟨D, h1, h2, h3⟩ := h
  obtain ⟨w', hrun, r1, r2⟩ := h1.store keyedS Try.underlying44 hn (keyOf_string_mk Try.underlying9 hs) (plainElem_int Try.underlying3 hc)
  have z := Maps.size_put (k := klit s) (h1.tidy keyedS) (.lit (.int .i64 c))
  have e : Maps.size (D.put (klit s) (.lit (.int .i64 c))) = putN F s n := by
    rw [z, (h2 s).1, h3]; rfl
  exact ⟨w', hrun, ⟨_, e ▸ ownsMap_tight r1, h2.put h1.isMap s c, e⟩, r2⟩
theorem MapN.drop {w : World} {b n : Nat} {F : ByteArray → Option Int} (h : MapN w b (n + 1) F) (s : ByteArray) (hs : s.size ≤ maxLen) (hF : (F s).isSome = true) (ty : TypeId) :
    ∃ w', (Builtin.delete_ #[44, 9] ty #[.map (some b), .string s]).run Try.prog w = .ok (.tuple #[]) w' ∧ MapN w' b n (delF F s) ∧ w.mapTurned w' b := by
  obtain ⟨D, h1, h2, h3⟩ := h
  obtain ⟨w', hrun, r1, r2⟩ := h1.drop keyedS Try.underlying44 (keyOf_string_mk Try.underlying9 hs) ty
  have z := Maps.size_del (k := klit s) (h1.tidy keyedS)
  rw [(h2 s).1, hF] at z
  have e : Maps.size (D.del (klit s)) = n := by simp at z; omega
  exact ⟨w', hrun, ⟨_, e ▸ ownsMap_tight r1, h2.del s, e⟩, r2⟩
theorem MapN.look {w : World} {b n : Nat} {F : ByteArray → Option Int} (h : MapN w b n F) (s : ByteArray) (hs : s.size ≤ maxLen) :
    (Instr.lookup 44 (.map (some b)) (.string s) true).run Try.prog w = .ok (.tuple #[.int .i64 ((F s).getD 0), .bool (F s).isSome]) w := by
  obtain ⟨D, h1, h2, h3⟩ := h
  obtain ⟨v, ps, hrun, hv⟩ := h1.look_ok keyedS Try.underlying44 (zeroInt w) (zd := .lit (.int .i64 0)) (zp := []) (plainElem_int Try.underlying3 (by rfl)) (keyOf_string_mk Try.underlying9 hs)
  obtain ⟨g1, g2⟩ := h2 s
  change (Instr.lookup 44 (.map (some b)) (.string s) true).run Try.prog w = .ok (.tuple #[v, .bool (Maps.has D (klit s))]) w at hrun
  change plainElem Try.prog 3 v = some (D.atKey (klit s) (.lit (.int .i64 0)), ps) at hv
  rw [hrun, g1]
  obtain ⟨c, rfl, e, _⟩ := plainElem_int_inv Try.underlying3 hv
  cases hF : F s with
  | none =>
    rw [hF] at g1
    rw [atKey_of_not_has g1] at e
    simp at e
    rw [← e.1]; rfl
  | some d =>
    rw [g2 d hF] at e
    simp at e
    rw [← e.1]; rfl
/-- A heap in memory: its struct in block p, its row of items in block g, its map of places in block b. -/
structure HevAt (w : World) (Bd p g b room n : Nat) (a : Nat → Itm) (F : ByteArray → Option Int) : Prop where
  blk : Blk w p 46 #[.slice (some ⟨g, 0, none⟩) room room, .map (some b)]
  row : RowL w Bd 30 (.slice (some ⟨g, 0, none⟩) room room) room a
  map : MapN w b n F
  bp : Bd ≤ p
  bg : Bd ≤ g
  bb : Bd ≤ b
  pg : p ≠ g
  pb : p ≠ b
  gb : g ≠ b
  r1 : 1 ≤ room
  r64 : room ≤ 64
  nr : n ≤ room
theorem HevAt.gl {w : World} {Bd p g b room n : Nat} {a : Nat → Itm} {F : ByteArray → Option Int} (h : HevAt w Bd p g b room n a F) : g < w.heap.size := (h.row.lt g rfl).2
/-- The heap's blocks. -/
def Of3 (p g b : Nat) : Nat → Prop := fun q => q = p ∨ q = g ∨ q = b
theorem HevAt.keep {w w' : World} {Bd p g b room n : Nat} {a : Nat → Itm} {F : ByteArray → Option Int} (h : HevAt w Bd p g b room n a F) (s : Same (Of3 p g b) w w') : HevAt w' Bd p g b room n a F :=
  ⟨h.blk.of (s.2 p (Or.inl rfl) h.blk.lt), h.row.of (fun q e => by cases e; exact s.2 g (Or.inr (Or.inl rfl)) h.gl), h.map.of (s.2 b (Or.inr (Or.inr rfl)) h.map.lt), h.bp, h.bg, h.bb, h.pg, h.pb, h.gb, h.r1, h.r64, h.nr⟩
theorem HevAt.since {w w' : World} {Bd p g b room n : Nat} {a : Nat → Itm} {F : ByteArray → Option Int} (h : HevAt w Bd p g b room n a F) (s : Below w.heap.size w w') : HevAt w' Bd p g b room n a F := h.keep (Same.below s)
theorem HevAt.grn {w w' : World} {Bd p g b room n : Nat} {a : Nat → Itm} {F : ByteArray → Option Int} (h : HevAt w Bd p g b room n a F) (s : Grn w w') : HevAt w' Bd p g b room n a F := h.since s.below
theorem HevAt.congr {w : World} {Bd p g b room n : Nat} {a c : Nat → Itm} {F : ByteArray → Option Int} (h : HevAt w Bd p g b room n a F) (e : ∀ i, i < room → a i = c i) : HevAt w Bd p g b room n c F := ⟨h.blk, h.row.congr e, h.map, h.bp, h.bg, h.bb, h.pg, h.pb, h.gb, h.r1, h.r64, h.nr⟩
theorem HevAt.c0 {w : World} {Bd p g b room n : Nat} {a : Nat → Itm} {F : ByteArray → Option Int} (h : HevAt w Bd p g b room n a F) : w.cell? ⟨p, 0, none⟩ = some (.slice (some ⟨g, 0, none⟩) room room) := h.blk.cell 0
theorem HevAt.c1 {w : World} {Bd p g b room n : Nat} {a : Nat → Itm} {F : ByteArray → Option Int} (h : HevAt w Bd p g b room n a F) : w.cell? ⟨p, 1, none⟩ = some (.map (some b)) := h.blk.cell 1
theorem grn_at (w : World) (n : Nat) (os : Array Obj) : Grn w (Go.Sort.grow (w.drewN n) os) := ⟨⟨n, os⟩, rfl⟩
/-- What lies above. -/
def par (i : Nat) : Nat := (i - 1) / 2
theorem above_any (w : World) (i : Nat) (h : i ≤ 1000) (h0 : 0 < i) : Calls Try.prog 28 #[.int .i64 (i : Int)] w fun e w' => e = .returned (.int .i64 ((par i : Nat) : Int)) ∧ w' = w := by
  obtain ⟨r, hr⟩ : ∃ r, r = par i := ⟨_, rfl⟩
  have hr2 : r = (i - 1) / 2 := hr
  have E : Hid (((i : Int) - 1) / 2 = (r : Int)) := show _ = _ by omega
  have E2 : Hid (((i : Int) - 1).tdiv 2 = (r : Int)) := show _ = _ by rw [Int.tdiv_eq_ediv_of_nonneg (by omega)]; exact E.out
  rw [← hr]
  have b1 : (0 : Int) < (i : Int) := by omega
  have b2 : (i : Int) ≤ 1000 := by omega
  clear hr hr2
  go_enter Try.func28, Try.ntmps28
  go_wp2_with fail
  go_ret
  refine ⟨?_, rfl⟩
  rw [← E.out]
  rfl
theorem mixed : Try.prog.follows .mixedOrders = true := by kernel_rfl
theorem taken_any (w : World) (Bd p g b room n : Nat) (a : Nat → Itm) (F : ByteArray → Option Int) (h : HevAt w Bd p g b room n a F) : Calls Try.prog 26 #[.pointer (some ⟨p, 0, none⟩)] w fun e w' => e = .returned (.slice (some ⟨g, 0, none⟩) n room) ∧ Grn w w' := by
  have K0 : ∀ q os, (Go.Sort.grow (w.drewN q) os).cell? ⟨p, 0, none⟩ = some (.slice (some ⟨g, 0, none⟩) room room) := fun q os => (h.grn (grn_at w q os)).c0
  have K1 : ∀ q os, (Go.Sort.grow (w.drewN q) os).cell? ⟨p, 1, none⟩ = some (.map (some b)) := fun q os => (h.grn (grn_at w q os)).c1
  have K2 : ∀ q os ty, (Builtin.len_ #[44] ty #[.map (some b)]).run Try.prog (Go.Sort.grow (w.drewN q) os) = .ok (.int .i64 (n : Int)) (Go.Sort.grow (w.drewN q) os) := fun q os ty => (h.grn (grn_at w q os)).map.len ty
  have b1 : (n : Int) ≤ (room : Int) := by have := h.nr; omega
  have b2 : (room : Int) ≤ 64 := by have := h.r64; omega
  have b3 : (0 : Int) ≤ (n : Int) := by omega
  have mx := mixed
  clear h
  go_enter Try.func26, Try.ntmps26
  go_wp2_with fail
  go_quiet_grown (fail)
  go_wp2_with fail
  go_ret
  exact ⟨rfl, grn_at w nq osq⟩
theorem taken_nil (w : World) : Calls Try.prog 26 #[.pointer none] w fun e w' => e = .returned (.slice none 0 0) ∧ w' = w := by
  go_enter Try.func26, Try.ntmps26
  go_wp2_with fail
  go_ret
  exact ⟨rfl, rfl⟩
theorem len_any (w : World) (Bd p g b room n : Nat) (a : Nat → Itm) (F : ByteArray → Option Int) (h : HevAt w Bd p g b room n a F) : Calls Try.prog 15 #[.pointer (some ⟨p, 0, none⟩)] w fun e w' => e = .returned (.int .i64 (n : Int)) ∧ Grn w w' := by
  go_enter Try.func15, Try.ntmps15
  go_wp2_with fail
  refine (taken_any w Bd p g b room n a F h).mono ?_
  rintro e u1 ⟨rfl, g1⟩
  clear h
  go_wp2_with fail
  go_ret
  exact ⟨rfl, g1⟩
theorem len_nil (w : World) : Calls Try.prog 15 #[.pointer none] w fun e w' => e = .returned (.int .i64 0) ∧ w' = w := by
  go_enter Try.func15, Try.ntmps15
  go_wp2_with fail
  refine (taken_nil w).mono ?_
  rintro e u1 ⟨rfl, rfl⟩
  go_wp2_with fail
  go_ret
  exact ⟨rfl, rfl⟩
set_option maxHeartbeats 800000 in
theorem behind_any (w : World) (Bd p g b room n : Nat) (a : Nat → Itm) (F : ByteArray → Option Int) (h : HevAt w Bd p g b room n a F) (i j : Nat) (hi : i < room) (hj : j < room) : Calls Try.prog 27 #[.pointer (some ⟨p, 0, none⟩), .int .i64 (i : Int), .int .i64 (j : Int)] w fun e w' => e = .returned (.bool (aheadB (a j) (a i))) ∧ Grn w w' := by
  obtain ⟨r, hr⟩ : ∃ r, r = stdF (a i) (a j) := ⟨_, rfl⟩
  obtain ⟨si, hsi⟩ : ∃ s, s = (a i).k := ⟨_, rfl⟩
  obtain ⟨ci, hci⟩ : ∃ c, c = (a i).c := ⟨_, rfl⟩
  obtain ⟨sj, hsj⟩ : ∃ s, s = (a j).k := ⟨_, rfl⟩
  obtain ⟨cj, hcj⟩ : ∃ c, c = (a j).c := ⟨_, rfl⟩
  have ei : (⟨si, ci⟩ : Itm) = a i := by rw [hsi, hci]
  have ej : (⟨sj, cj⟩ : Itm) = a j := by rw [hsj, hcj]
  have ER : Hid (aheadB (a j) (a i) = decide (r > 0)) := by
    show _ = _
    rw [Bool.eq_iff_iff, aheadB_iff, decide_eq_true_iff, hr, stdF_pos]
  have hst : ∀ u, Calls Try.prog 31 #[.agg #[.string si, .int .i64 ci], .agg #[.string sj, .int .i64 cj]] u fun e w' => e = .returned (.int .i64 r) ∧ Grn u w' := fun u => by
    have := standing_any u si ci sj cj
    rw [ei, ej, ← hr] at this
    exact this
  have ST : Hid (∀ q os, Calls Try.prog 31 #[.agg #[.string si, .int .i64 ci], .agg #[.string sj, .int .i64 cj]] (Go.Sort.grow (w.drewN q) os) fun e w'' => e = .returned (.int .i64 r) ∧ ∃ p : GrownBy, w'' = Go.Sort.grow (w.drewN p.n) p.os) := fun q os => (hst _).mono fun e u h => ⟨h.1, (grn_at w q os).trans h.2⟩
  have K0 : ∀ q os, (Go.Sort.grow (w.drewN q) os).cell? ⟨p, 0, none⟩ = some (.slice (some ⟨g, 0, none⟩) room room) := fun q os => (h.grn (grn_at w q os)).c0
  have I0 : ∀ q os, (Go.Sort.grow (w.drewN q) os).cell? ⟨g, i * 2, none⟩ = some (.string si) := fun q os => by rw [hsi]; exact ((h.grn (grn_at w q os)).row.cell hi).1
  have I1 : ∀ q os, (Go.Sort.grow (w.drewN q) os).cell? ⟨g, i * 2 + 1, none⟩ = some (.int .i64 ci) := fun q os => by rw [hci]; exact ((h.grn (grn_at w q os)).row.cell hi).2
  have J0 : ∀ q os, (Go.Sort.grow (w.drewN q) os).cell? ⟨g, j * 2, none⟩ = some (.string sj) := fun q os => by rw [hsj]; exact ((h.grn (grn_at w q os)).row.cell hj).1
  have J1 : ∀ q os, (Go.Sort.grow (w.drewN q) os).cell? ⟨g, j * 2 + 1, none⟩ = some (.int .i64 cj) := fun q os => by rw [hcj]; exact ((h.grn (grn_at w q os)).row.cell hj).2
  have b1 : (i : Int) < (room : Int) := by omega
  have b2 : (j : Int) < (room : Int) := by omega
  have b3 : (0 : Int) ≤ (i : Int) := by omega
  have b4 : (0 : Int) ≤ (j : Int) := by omega
  have b5 : (room : Int) ≤ 64 := by have := h.r64; omega
  have mx := mixed
  rw [ER.out]
  clear h hst hr hsi hci hsj hcj ei ej ER
  go_enter Try.func27, Try.ntmps27
  go_wp2_with fail
  go_quiet_grown ((go_at_call 31; exact ST.out _ _))
  go_wp2_with fail
  go_ret
  exact ⟨rfl, grn_at w nq osq⟩
/-- What the places of a heap say of a key, of the items there. -/
theorem get_any (w : World) (Bd p g b room n : Nat) (a : Nat → Itm) (F : ByteArray → Option Int) (h : HevAt w Bd p g b room n a F) (hp : PlF n a F) (m : List Itm) (hm : HoldsL n a m) (s : ByteArray) (hs : s.size ≤ maxLen) : Calls Try.prog 19 #[.pointer (some ⟨p, 0, none⟩), .string s] w fun e w' => e = .returned (.tuple #[.int .i64 ((getL m s).getD 0), .bool (getL m s).isSome]) ∧ w' = w := by
  have k0 := h.c0
  have k1 := h.c1
  have HM : Hid (MapN w b n F) := h.map
  have b5 : (room : Int) ≤ 64 := by have := h.r64; omega
  rcases hp.known s with ⟨i, hi, he, hF⟩ | ⟨hne, hF⟩
  · have hir : i < room := by have := h.nr; omega
    obtain ⟨c1, c2⟩ := h.row.cell hir
    have G : Hid (getL m s = some (a i).c) := by show _ = _; rw [← he]; exact hm.get_in hi
    have HF : Hid (F s = some (i : Int)) := hF
    have bi : (i : Int) < (room : Int) := by omega
    have bi0 : (0 : Int) ≤ (i : Int) := by omega
    obtain ⟨x, hx⟩ : ∃ x, x = (a i).c := ⟨_, rfl⟩
    rw [← hx] at c2 G
    clear hF he hx h hp hm c1
    go_enter Try.func19, Try.ntmps19
    go_wp2_with (at_lookup; refine wp_look_some _ rfl (.tmp 14) (.tmp 15) 44 rfl Try.underlying44 b n F rfl HM.out.f s rfl hs i HF.out ?_)
    go_returns
    rw [G.out]
    exact ⟨rfl, rfl⟩
  · have G : Hid (getL m s = none) := hm.get_out hne
    have HF : Hid (F s = none) := hF
    clear hF hne h hp hm
    go_enter Try.func19, Try.ntmps19
    go_wp2_with (at_lookup; refine wp_look_none _ rfl (.tmp 14) (.tmp 15) 44 rfl Try.underlying44 b n F rfl HM.out.f s rfl hs HF.out ?_)
    go_returns
    rw [G.out]
    exact ⟨rfl, rfl⟩
theorem get_nil (w : World) (s : ByteArray) : Calls Try.prog 19 #[.pointer none, .string s] w fun e w' => e = .returned (.tuple #[.int .i64 0, .bool false]) ∧ w' = w := by
  go_enter Try.func19, Try.ntmps19
  go_wp2_with fail
  go_returns
  exact ⟨rfl, rfl⟩
end Go.Proofs.Ytejdfahokbheoaa
