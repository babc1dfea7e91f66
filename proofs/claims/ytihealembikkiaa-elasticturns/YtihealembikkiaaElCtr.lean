
/-
  What the laws of layer 15 want of the program, in one word: its contracts. The laws are walked over it; the code's own text proves it.
-/
import Derived.Test.YtihealembikkiaaElPut
import Derived.Test.YtihealembikkiaaHevRPut
namespace Go.Proofs.Ytihealembikkiaa
open Go.RowKit Fm Bl Lt El L2 L10 L14 Go.Deep
set_option linter.unusedVariables false
set_option maxRecDepth 20000

/-- A sketch whose light rows are of one length. -/
def elF (S room votes : Int) (bs : List Bkt) (R c : Nat) (Z : Nat → Nat → Int) : Elk := ⟨S, room, votes, bs, rowF S 1, 255, R, fun _ => c, Z⟩
/-- The empty one. -/
def elz : Value := .agg #[.int .u64 0, .int .i64 0, .int .i64 0, .slice none 0 0, .int .u64 0, .int .i64 0, .slice none 0 0]
/-- The entries of so many votes, as items that stand. -/
def listEs (most : Int) : List Hv.Itm → List Ent → List Hv.Itm
  | l, [] => l
  | l, e :: r => listEs most (if e.v ≥ most then Hv.putL l ⟨e.k, e.v⟩ else l) r
def listBs (most : Int) : List Hv.Itm → List Bkt → List Hv.Itm
  | l, [] => l
  | l, b :: r => listBs most (listEs most l b.es) r
/-- Keys that are short. -/
def ShortE (bs : List Bkt) : Prop := ∀ (i : Nat) (b : Bkt), bs[i]? = some b → ∀ (j : Nat) (e : Ent), b.es[j]? = some e → e.k.size ≤ 100
/-- The light ones, with what came to them. -/
def lightO (S : Int) (c : Nat) (Z : Nat → Nat → Int) : Option (ByteArray × Int) → Nat → Nat → Int
  | none => Z
  | some y => addZ (rowF S 1) 255 c Z y.1 y.2
structure CtrE : Prop where
  new_ok : ∀ (w : World) (S : Int) (n room R c : Nat) (votes : Int), U S → shapeE n room votes R c = true → Calls Try.prog 21 #[.int .u64 S, .int .i64 (n : Int), .int .i64 (room : Int), .int .i64 votes, .int .i64 (R : Int), .int .i64 (c : Int)] w fun e w' => ∃ x, e = .returned (.tuple #[x, .int .i64 0]) ∧ Held (fun q => w.heap.size ≤ q) (fun u => ElAt u x (elF S room votes (List.replicate n ⟨[], 0⟩) R c (fun _ _ => 0))) w' ∧ Below w.heap.size w w'
  new_bad : ∀ (w : World) (S n room votes R c : Int), U S → I n → I room → I votes → I R → I c → shapeE n room votes R c = false → Calls Try.prog 21 #[.int .u64 S, .int .i64 n, .int .i64 room, .int .i64 votes, .int .i64 R, .int .i64 c] w fun e w' => e = .returned (.tuple #[elz, .int .i64 1]) ∧ Below w.heap.size w w'
  right : ∀ (w : World) (x : Value) (F : Elk), ElAt w x F → U F.S → SmallE F → Calls Try.prog 15 #[x] w (TellsB w (RightE F))
  add_bad : ∀ (w : World) (x : Value) (F : Elk) (s : ByteArray), ElAt w x F → U F.S → SmallE F → s.size ≤ 100 → ¬ RightE F → Calls Try.prog 11 #[x, .string s] w fun e w' => e = .returned (.tuple #[elz, .int .i64 1]) ∧ Below w.heap.size w w'
  add_full : ∀ (w : World) (x : Value) (S : Int) (room votes : Int) (bs : List Bkt) (R c : Nat) (Z : Nat → Nat → Int) (s : ByteArray) (b : Bkt), ElAt w x (elF S room votes bs R c Z) → U S → RightE (elF S room votes bs R c Z) → ShortE bs → s.size ≤ 100 → bs[placeN S s bs.length 0]? = some b → El.addB room.toNat votes b s = none → Calls Try.prog 11 #[x, .string s] w fun e w' => e = .returned (.tuple #[elz, .int .i64 5]) ∧ Below w.heap.size w w'
  add_ok : ∀ (w : World) (x : Value) (S : Int) (room votes : Int) (bs : List Bkt) (R c : Nat) (Z : Nat → Nat → Int) (s : ByteArray) (b b' : Bkt) (o : Option (ByteArray × Int)) (D : Nat → Prop), (∀ q, w.heap.size ≤ q → D q) → Held D (fun u => ElAt u x (elF S room votes bs R c Z)) w → U S → RightE (elF S room votes bs R c Z) → ShortE bs → s.size ≤ 100 → bs[placeN S s bs.length 0]? = some b → El.addB room.toNat votes b s = some (b', o) →
    Calls Try.prog 11 #[x, .string s] w fun e w' => ∃ x', e = .returned (.tuple #[x', .int .i64 0]) ∧ Held D (fun u => ElAt u x' (elF S room votes (bs.set (placeN S s bs.length 0) b') R c (lightO S c Z o))) w' ∧ Below w.heap.size w w'
  get_bad : ∀ (w : World) (x : Value) (F : Elk) (s : ByteArray), ElAt w x F → U F.S → SmallE F → s.size ≤ 100 → ¬ RightE F → Calls Try.prog 12 #[x, .string s] w fun e w' => e = .returned (.tuple #[.int .i64 0, .int .i64 0, .bool false, .bool false]) ∧ Below w.heap.size w w'
  get_ok : ∀ (w : World) (x : Value) (S : Int) (room votes : Int) (bs : List Bkt) (R c : Nat) (Z : Nat → Nat → Int) (s : ByteArray) (b : Bkt) (lo hi : Int) (ex fu : Bool), ElAt w x (elF S room votes bs R c Z) → U S → RightE (elF S room votes bs R c Z) → ShortE bs → s.size ≤ 100 → bs[placeN S s bs.length 0]? = some b → getE R c (rowF S 1) b Z s = (lo, hi, ex, fu) → Calls Try.prog 12 #[x, .string s] w fun e w' => e = .returned (.tuple #[.int .i64 lo, .int .i64 hi, .bool ex, .bool fu]) ∧ Below w.heap.size w w'
  list_bad : ∀ (w : World) (x : Value) (F : Elk) (most : Int), ElAt w x F → U F.S → SmallE F → I most → ¬ RightE F → Calls Try.prog 13 #[x, .int .i64 most] w fun e w' => ∃ lv, e = .returned lv ∧ NewL w w' lv [] ∧ Below w.heap.size w w'
  list_ok : ∀ (w : World) (x : Value) (F : Elk) (most : Int), ElAt w x F → U F.S → RightE F → ShortE F.bs → I most → Calls Try.prog 13 #[x, .int .i64 most] w fun e w' => ∃ lv, e = .returned lv ∧ NewL w w' lv (listBs most [] F.bs) ∧ Below w.heap.size w w'
theorem ElAt.form {w : World} {x : Value} {F : Elk} (h : ElAt w x F) : ∃ a0 c0 a1 c1, x = .agg #[.int .u64 F.S, .int .i64 F.room, .int .i64 F.votes, .slice a0 F.bs.length c0, .int .u64 F.LS, .int .i64 F.LM, .slice a1 F.R c1] := by
  obtain ⟨bv, rv, rfl, ⟨a0, c0, _, _, rfl, _⟩, hr⟩ := h
  obtain ⟨a1, c1, _, _, rfl, _⟩ := hr.read
  exact ⟨a0, c0, a1, c1, rfl⟩
/-- What keys that came make is right. -/
theorem inv_right {S votes : Int} {N room R c t : Nat} {q : Nat → ByteArray} {st : Fs} (h : Inv N room (fun s => placeN S s N 0) q t st) (sh : shapeE N room votes R c = true) (ht : t ≤ 1000000) (ok : OkP 255 R c (lightZ (rowF S 1) 255 c st.li)) : RightE (elF S room votes st.bs R c (lightZ (rowF S 1) 255 c st.li)) := by
  rw [shapeE_iff] at sh
  refine ⟨by show (1 : Int) ≤ room; omega, by show (room : Int) ≤ 8; omega, by show 1 ≤ votes; omega, by show votes ≤ 64; omega, by show 1 ≤ st.bs.length; rw [h.len]; omega, by show st.bs.length ≤ 256; rw [h.len]; omega, ok.right, rfl, rfl, fun i b hb => ?_⟩
  have hr := h.room' i b hb
  refine ⟨by show (b.es.length : Int) ≤ (room : Int); omega, hr.2.1, by omega, fun j e he => ?_⟩
  have me := List.mem_of_getElem? he
  have v := h.vote hb me
  have := cntK_le q (fun k => decide (k = e.k)) t
  refine ⟨(h.ents i b hb e me).1, by omega, atE_find he rfl fun k x hk hx => ?_⟩
  exact apart_at (h.apart i b hb) hx he (by omega)
theorem ok_zero {R c : Nat} {N room : Nat} {votes : Int} (sh : shapeE N room votes R c = true) : OkP 255 R c (fun _ _ => 0) := by
  rw [shapeE_iff] at sh
  exact ⟨by omega, by omega, by omega, by omega, by omega, by omega, fun i hi j hj => ⟨Int.le_refl _, by show (0 : Int) ≤ 255; omega⟩⟩
end Go.Proofs.Ytihealembikkiaa
