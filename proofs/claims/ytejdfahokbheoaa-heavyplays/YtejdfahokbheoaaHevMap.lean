
/-
  A map from strings to ints that the call made, as a function from keys to counts: read with ok, stored into, deleted from. Nothing of one layer is in this text.
-/
import Derived.Test.YtejdfahokbheoaaHevNum
import Derived.Test.YtejdfahokbheoaaMemKit
import Derived.Maps.OwnSet
import Derived.StringKeys
namespace Go.Proofs.Ytejdfahokbheoaa
open Go.RowKit Hv Go.Deep Go.Maps Go.ChangeMaps Go.WideMaps
set_option linter.unusedVariables false

/-- What a key reads as. -/
def klit (s : ByteArray) : Lit := .string s.data.toList
theorem klit_key (s : ByteArray) : WideAt.IsKeyLit (klit s) := by unfold klit WideAt.IsKeyLit; trivial
theorem klit_ne {s t : ByteArray} (h : s ≠ t) : klit s ≠ klit t := fun e => h (key_ext (by unfold klit at e; injection e))
/-- A datum that reads as such a function. -/
def ReadsF (D : DataW Unit) (F : ByteArray → Option Int) : Prop := ∀ s, Maps.has D (klit s) = (F s).isSome ∧ ∀ c, F s = some c → D.atKey (klit s) (.lit (.int .i64 0)) = .lit (.int .i64 c)
theorem readsF_none : ReadsF (.map []) (fun _ => none) := fun s => ⟨rfl, fun c h => by cases h⟩
theorem ReadsF.put {D : DataW Unit} {F : ByteArray → Option Int} (h : ReadsF D F) (hD : IsMap D) (s : ByteArray) (c : Int) : ReadsF (D.put (klit s) (.lit (.int .i64 c))) (fun t => if t = s then some c else F t) := fun t => by
  by_cases e : t = s
  · subst e
    simp only [if_pos]
    exact ⟨has_put_same hD (klit_key t) _, fun d hd => by cases hd; exact atKey_put_same hD (klit_key t) _ _⟩
  · simp only [if_neg e]
    rw [has_put_other (klit_ne e)]
    exact ⟨(h t).1, fun d hd => by rw [atKey_put_other (klit_ne e)]; exact (h t).2 d hd⟩
theorem ReadsF.del {D : DataW Unit} {F : ByteArray → Option Int} (h : ReadsF D F) (s : ByteArray) : ReadsF (D.del (klit s)) (fun t => if t = s then none else F t) := fun t => by
  by_cases e : t = s
  · subst e
    simp only [if_pos]
    exact ⟨has_del_same, fun d hd => by cases hd⟩
  · simp only [if_neg e]
    rw [has_del_other (klit_ne e)]
    exact ⟨(h t).1, fun d hd => by rw [atKey_del_other (klit_ne e)]; exact (h t).2 d hd⟩
theorem keyedS : Keyed Try.prog 9 := string_keyed Try.underlying9
theorem zeroInt (w : World) : (zeroValue 3).run Try.prog w = .ok (.int .i64 0) w := by kernel_rfl
/-- The block b is a map that reads so, of at most n entries. -/
def MapF (w : World) (b n : Nat) (F : ByteArray → Option Int) : Prop := ∃ D : DataW Unit, w.ownsMap Try.prog 9 (plainElem Try.prog 3) b n D ∧ ReadsF D F
theorem MapF.lt {w : World} {b n : Nat} {F : ByteArray → Option Int} (h : MapF w b n F) : b < w.heap.size := by obtain ⟨D, h, _⟩ := h; exact h.lt
theorem MapF.of {w w' : World} {b n : Nat} {F : ByteArray → Option Int} (h : MapF w b n F) (e : w'.heap[b]? = w.heap[b]?) : MapF w' b n F := by
  obtain ⟨D, ⟨es, clock, hb, r⟩, h2⟩ := h
  exact ⟨D, ⟨es, clock, by rw [e]; exact hb, r⟩, h2⟩
theorem MapF.congr {w : World} {b n : Nat} {F G : ByteArray → Option Int} (h : MapF w b n F) (e : ∀ s, F s = G s) : MapF w b n G := by
  have : F = G := funext e
  exact this ▸ h
theorem MapF.mono {w : World} {b n m : Nat} {F : ByteArray → Option Int} (h : MapF w b n F) (k : n ≤ m) : MapF w b m F := by obtain ⟨D, h1, h2⟩ := h; exact ⟨D, h1.mono k, h2⟩
theorem MapF.since {w w' : World} {b n : Nat} {F : ByteArray → Option Int} (h : MapF w b n F) (s : Below w.heap.size w w') : MapF w' b n F := h.of (s.block b h.lt)
theorem MapF.other {w : World} {b n : Nat} {F : ByteArray → Option Int} (h : MapF w b n F) {a : Addr} (ha : b ≠ a.block) (v : Value) : MapF (w.setCell a v) b n F := h.of (Below.heap_setCell w a v b ha)
theorem MapF.alloc {w : World} {b n : Nat} {F : ByteArray → Option Int} (h : MapF w b n F) (o : Obj) : MapF (w.alloc o) b n F := h.of (Below.heap_alloc w o b h.lt)
theorem MapF.drew {w : World} {b n : Nat} {F : ByteArray → Option Int} (h : MapF w b n F) : MapF w.drew b n F := h.of rfl
theorem mapF_made (w : World) : MapF (w.alloc (.map #[] 0)) w.heap.size 0 (fun _ => none) := ⟨_, World.ownsMap_made w _ _ _, readsF_none⟩
section
variable (w : World) {ops : Array Oper} {rest : List Oper} {o : Oper} {a : Act} {Q : Exit → Act → World → Prop}
/-- 'v, ok := m[k]', where the key is there. -/
theorem wp_look_some (hg : o.guard = none) (m x : Operand) (t : TypeId) (hop : o.op = Op.lookup t m x true) (ht : Try.prog.underlying t = some (.map 9 3)) (b n : Nat) (F : ByteArray → Option Int) (hm : a.eval m = .map (some b)) (h : MapF w b n F) (s : ByteArray) (hx : a.eval x = .string s) (hs : s.size ≤ maxLen) (c : Int) (hF : F s = some c)
    (hK : wpList Try.prog ops Q rest (a.put o.dst (.tuple #[.int .i64 c, .bool true])) w) : wpList Try.prog ops Q (o :: rest) a w := by
  obtain ⟨D, h1, h2⟩ := h
  refine wpList_lookup_own_ok_int w hg m x t hop 9 3 .i64 keyedS ht Try.underlying3 (zeroInt w) b n D hm h1 (.string s) (klit s) hx (keyOf_string_mk Try.underlying9 hs) fun d hat _ => ?_
  obtain ⟨g1, g2⟩ := h2 s
  rw [hF] at g1
  have e := (g2 c hF).symm.trans hat
  simp only [DataW.lit.injEq, Lit.int.injEq, true_and] at e
  rw [← e, g1]
  exact hK
/-- .. where it is not. -/
theorem wp_look_none (hg : o.guard = none) (m x : Operand) (t : TypeId) (hop : o.op = Op.lookup t m x true) (ht : Try.prog.underlying t = some (.map 9 3)) (b n : Nat) (F : ByteArray → Option Int) (hm : a.eval m = .map (some b)) (h : MapF w b n F) (s : ByteArray) (hx : a.eval x = .string s) (hs : s.size ≤ maxLen) (hF : F s = none)
    (hK : wpList Try.prog ops Q rest (a.put o.dst (.tuple #[.int .i64 0, .bool false])) w) : wpList Try.prog ops Q (o :: rest) a w := by
  obtain ⟨D, h1, h2⟩ := h
  refine wpList_lookup_own_ok_int w hg m x t hop 9 3 .i64 keyedS ht Try.underlying3 (zeroInt w) b n D hm h1 (.string s) (klit s) hx (keyOf_string_mk Try.underlying9 hs) fun d hat _ => ?_
  obtain ⟨g1, _⟩ := h2 s
  rw [hF] at g1
  rw [atKey_of_not_has g1] at hat
  simp only [DataW.lit.injEq, Lit.int.injEq, true_and] at hat
  rw [← hat, g1]
  exact hK
/-- 'm[k]' where the key is there. -/
theorem wp_at_some (hg : o.guard = none) (m x : Operand) (t : TypeId) (hop : o.op = Op.lookup t m x false) (ht : Try.prog.underlying t = some (.map 9 3)) (b n : Nat) (F : ByteArray → Option Int) (hm : a.eval m = .map (some b)) (h : MapF w b n F) (s : ByteArray) (hx : a.eval x = .string s) (hs : s.size ≤ maxLen) (c : Int) (hF : F s = some c)
    (hK : wpList Try.prog ops Q rest (a.put o.dst (.int .i64 c)) w) : wpList Try.prog ops Q (o :: rest) a w := by
  obtain ⟨D, h1, h2⟩ := h
  refine wpList_lookup_own_int w hg m x t hop 9 3 .i64 keyedS ht Try.underlying3 (zeroInt w) b n D hm h1 (.string s) (klit s) hx (keyOf_string_mk Try.underlying9 hs) fun d hat _ => ?_
  have e := ((h2 s).2 c hF).symm.trans hat
  simp only [DataW.lit.injEq, Lit.int.injEq, true_and] at e
  rw [← e]
  exact hK
/-- 'm[k] = v'. -/
theorem wp_store (hg : o.guard = none) (m x v : Operand) (t : TypeId) (hop : o.op = Op.mapUpdate t m x v) (ht : Try.prog.underlying t = some (.map 9 3)) (b n : Nat) (F : ByteArray → Option Int) (hm : a.eval m = .map (some b)) (h : MapF w b n F) (hn : n < maxLen) (s : ByteArray) (hx : a.eval x = .string s) (hs : s.size ≤ maxLen) (c : Int) (hv : a.eval v = .int .i64 c) (hc : (Lit.int .i64 c).wf = true)
    (hK : ∀ w', MapF w' b (n + 1) (fun t => if t = s then some c else F t) → w.mapTurned w' b → wpList Try.prog ops Q rest (a.put o.dst undef) w') : wpList Try.prog ops Q (o :: rest) a w := by
  obtain ⟨D, h1, h2⟩ := h
  exact wpList_mapUpdate_in w hg m x v t hop 9 3 keyedS ht (plainElem Try.prog 3) b n D hm h1 hn (.string s) (.int .i64 c) (klit s) hx hv (keyOf_string_mk Try.underlying9 hs) (.lit (.int .i64 c)) [] (plainElem_int Try.underlying3 hc) fun w' k1 k2 => hK w' ⟨_, k1, h2.put h1.isMap s c⟩ k2
/-- 'delete(m, k)'. -/
theorem wp_drop (hg : o.guard = none) (m x : Operand) (t : TypeId) (hop : o.op = Op.call { callee := Callee.builtin Builtin.delete, args := #[m, x], argTypes := #[t, 9] }) (ht : Try.prog.underlying t = some (.map 9 3)) (b n : Nat) (F : ByteArray → Option Int) (hm : a.eval m = .map (some b)) (h : MapF w b n F) (s : ByteArray) (hx : a.eval x = .string s) (hs : s.size ≤ maxLen)
    (hK : ∀ w', MapF w' b n (fun t => if t = s then none else F t) → w.mapTurned w' b → wpList Try.prog ops Q rest (a.put o.dst (.tuple #[])) w') : wpList Try.prog ops Q (o :: rest) a w := by
  obtain ⟨D, h1, h2⟩ := h
  exact wpList_delete_own w hg m x t 9 hop 3 keyedS ht (plainElem Try.prog 3) b n D hm h1 (.string s) (klit s) hx (keyOf_string_mk Try.underlying9 hs) fun w' k1 k2 => hK w' ⟨_, k1, h2.del s⟩ k2
end
/-- .. in a region that draws its order. -/
theorem step_store {ops : Array Oper} {o : Oper} {a : Act} {w : World} {K : Act → World → Prop} {Q : Exit → Act → World → Prop} {E : Prop} (hg : o.guard = none) (m x v : Operand) (t : TypeId) (hop : o.op = Op.mapUpdate t m x v) (ht : Try.prog.underlying t = some (.map 9 3)) (b n : Nat) (F : ByteArray → Option Int) (hm : a.eval m = .map (some b)) (h : MapF w b n F) (hn : n < maxLen) (s : ByteArray) (hx : a.eval x = .string s) (hs : s.size ≤ maxLen) (c : Int) (hv : a.eval v = .int .i64 c) (hc : (Lit.int .i64 c).wf = true)
    (hK : ∀ w', MapF w' b (n + 1) (fun t => if t = s then some c else F t) → w.mapTurned w' b → K (a.put o.dst undef) w') : if Region.wanted o (yielded ops a.tmps) = true then Oper.wp Try.prog o a w K Q else E := by
  have hw : Region.wanted o (yielded ops a.tmps) = true := by simp [Region.wanted, hg]
  rw [if_pos hw]
  obtain ⟨D, h1, h2⟩ := h
  obtain ⟨w', hrun, r1, r2⟩ := h1.store keyedS ht hn (keyOf_string_mk Try.underlying9 hs) (plainElem_int Try.underlying3 hc)
  unfold Oper.wp
  simp [execOp, hop, hm, hx, hv, hrun, Result.andThen]
  exact hK w' ⟨_, r1, h2.put h1.isMap s c⟩ r2
theorem step_drop {ops : Array Oper} {o : Oper} {a : Act} {w : World} {K : Act → World → Prop} {Q : Exit → Act → World → Prop} {E : Prop} (hg : o.guard = none) (m x : Operand) (t : TypeId) (hop : o.op = Op.call { callee := Callee.builtin Builtin.delete, args := #[m, x], argTypes := #[t, 9] }) (ht : Try.prog.underlying t = some (.map 9 3)) (b n : Nat) (F : ByteArray → Option Int) (hm : a.eval m = .map (some b)) (h : MapF w b n F) (s : ByteArray) (hx : a.eval x = .string s) (hs : s.size ≤ maxLen)
    (hK : ∀ w', MapF w' b n (fun t => if t = s then none else F t) → w.mapTurned w' b → K (a.put o.dst (.tuple #[])) w') : if Region.wanted o (yielded ops a.tmps) = true then Oper.wp Try.prog o a w K Q else E := by
  have hw : Region.wanted o (yielded ops a.tmps) = true := by simp [Region.wanted, hg]
  rw [if_pos hw]
  obtain ⟨D, h1, h2⟩ := h
  obtain ⟨w', hrun, r1, r2⟩ := h1.drop keyedS ht (keyOf_string_mk Try.underlying9 hs) o.type
  unfold Oper.wp
  simp [execOp, hop, resolve, invoke, builtin, hm, hx, hrun, Result.andThen]
  exact hK w' ⟨_, r1, h2.del s⟩ r2
/-- What turns where a map is written. -/
theorem turned_below {Bd : Nat} {w wr w2 : World} {b : Nat} (h : Below Bd w wr) (t : wr.mapTurned w2 b) (hb : Bd ≤ b) (hz : Bd ≤ wr.heap.size) : Below Bd w w2 := h.grown t.grown hz fun k e => by cases e; exact hb
theorem turned_other {w w2 : World} {b q : Nat} (t : w.mapTurned w2 b) (h : q ≠ b) (hq : q < w.heap.size) : w2.heap[q]? = w.heap[q]? := t.grown.block q hq (fun e => h (by cases e; rfl))
theorem turned_size {w w2 : World} {b : Nat} (t : w.mapTurned w2 b) : w2.heap.size = w.heap.size := by
  obtain ⟨es, clock, es', clock', hb, rfl⟩ := t
  simp [setBlock]
theorem turned_cell {w w2 : World} {b : Nat} {q : Addr} {v : Value} (t : w.mapTurned w2 b) (h : w.cell? q = some v) (hq : q.block ≠ b) : w2.cell? q = some v := (World.cell?_of_block (turned_other t hq (World.block_lt_of_cell? w q h))).trans h
theorem turned_blk {w w2 : World} {b q : Nat} {t : TypeId} {cs : Array Value} (k : w.mapTurned w2 b) (h : Blk w q t cs) (hq : q ≠ b) : Blk w2 q t cs := h.of (turned_other k hq h.lt)
end Go.Proofs.Ytejdfahokbheoaa
