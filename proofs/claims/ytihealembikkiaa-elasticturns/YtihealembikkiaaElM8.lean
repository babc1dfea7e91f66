
/-
  A sketch of layer 15 that comes in: what is known of it.
  The document's Add of layer 15 (elastic), as the plain functions say it.
  Small facts and contracts for the walk of ElasticTurns (layer 15).
-/
import Derived.Test.YtihealembikkiaaElMem
import Derived.Test.YtihealembikkiaaLstOpen
import Derived.Test.YtihealembikkiaaBlmOpen
import Derived.SizedLaws
import Derived.Test.YtihealembikkiaaElRAddIn
import Derived.Test.YtihealembikkiaaElM5
import Derived.Test.YtihealembikkiaaElM7
namespace Go.Proofs.Ytihealembikkiaa
open Go.RowKit Fm Bl Lt El L2 L10 L14 Go.Deep Go.ChangeShapes Go.WideShapes Go.Joins
set_option linter.unusedVariables false
set_option maxRecDepth 20000

theorem cellsEE : Try.prog.cellsOf 76 = 3 := by kernel_rfl
theorem cellsEB : Try.prog.cellsOf 56 = 2 := by kernel_rfl
theorem bytesEE : Try.prog.bytesOf 76 = 32 := by kernel_rfl
theorem bytesEB : Try.prog.bytesOf 56 = 32 := by kernel_rfl
/-- Entries that come in. -/
theorem open_ents {H : Type} {enc : TypeId × Value → H} {w : World} {n : Nat} {v : Value} {y : DataW H × List MemPlace} (h : DataW.trod enc Try.prog w 0 (fun _ => true) true n 54 [v] = some y) (hw : ∀ m ∈ y.1.weights Try.prog 54, m ≤ reachBytes) :
    ∃ l : List Ent, EntsE w v l ∧ l.length * 32 ≤ 140737488355328 ∧ ∀ (j : Nat) (e : Ent), l[j]? = some e → e.k.size ≤ 9223372036854775807 := by
  rcases open_slice Try.underlying54 h with ⟨e2, _⟩ | ⟨a, len, cap, m, n, D, Pl, e2, _, hl, hm, hmm, hy, hx⟩
  · simp only [List.cons.injEq, and_true] at e2
    subst e2
    exact ⟨[], ents_none w, by simp, fun j e he => by simp at he⟩
  · simp only [List.cons.injEq, and_true] at e2
    subst e2
    simp only [if_true] at hmm
    have bound : len * 32 ≤ 140737488355328 := by
      have e := hw ((len + (m - len)) * Try.prog.bytesOf 76) (by rw [hy]; simp [DataW.weights, Try.underlying54])
      rw [bytesEE] at e
      unfold reachBytes at e
      omega
    have each : ∀ i, i < len → ∃ e : Ent, e.k.size ≤ 9223372036854775807 ∧ w.cell? ((a.add (i * 3)).add 0) = some (.string e.k) ∧ w.cell? ((a.add (i * 3)).add 1) = some (.int .i64 e.v) ∧ w.cell? ((a.add (i * 3)).add 2) = some (.bool e.f) := fun i hi => by
      obtain ⟨cs', h1, h2⟩ := hx i (by omega)
      rw [cellsEE] at h1
      obtain ⟨_, hlen, hcell⟩ := World.cells?_some h1
      obtain ⟨xs, k, _, _, _, hxl, hf⟩ := DataW.trod_struct Try.underlying76 h2
      match xs, hxl, cs', hlen with
      | [y0, y1, y2], _, [v0, v1, v2], _ =>
        have g0 := hf 0 _ rfl
        have g1 := hf 1 _ rfl
        have g2 := hf 2 _ rfl
        have c9 : Try.prog.cellsOf 9 = 1 := by kernel_rfl
        have c3 : Try.prog.cellsOf 3 = 1 := by kernel_rfl
        have c4 : Try.prog.cellsOf 4 = 1 := by kernel_rfl
        simp [c9, c3, c4] at g0 g1 g2
        obtain ⟨s, es, _, hs⟩ := DataW.trod_string Try.underlying9 g0
        obtain ⟨x, ex, _, _⟩ := DataW.trod_int Try.underlying3 g1
        obtain ⟨b, eb, _⟩ := DataW.trod_bool Try.underlying4 g2
        simp only [List.cons.injEq, and_true] at es ex eb
        subst es ex eb
        exact ⟨⟨s, x, b⟩, by unfold maxLen at hs; exact hs, hcell 0 (by omega), hcell 1 (by omega), hcell 2 (by omega)⟩
    obtain ⟨E, hE⟩ : ∃ E : Nat → Ent, ∀ i, i < len → (E i).k.size ≤ 9223372036854775807 ∧ w.cell? ((a.add (i * 3)).add 0) = some (.string (E i).k) ∧ w.cell? ((a.add (i * 3)).add 1) = some (.int .i64 (E i).v) ∧ w.cell? ((a.add (i * 3)).add 2) = some (.bool (E i).f) := by
      have : ∀ i, ∃ e : Ent, i < len → e.k.size ≤ 9223372036854775807 ∧ w.cell? ((a.add (i * 3)).add 0) = some (.string e.k) ∧ w.cell? ((a.add (i * 3)).add 1) = some (.int .i64 e.v) ∧ w.cell? ((a.add (i * 3)).add 2) = some (.bool e.f) := fun i => by
        by_cases hi : i < len
        · obtain ⟨e, q⟩ := each i hi
          exact ⟨e, fun _ => q⟩
        · exact ⟨⟨⟨#[]⟩, 0, false⟩, fun z => absurd z hi⟩
      exact Classical.axiomOfChoice this
    have get : ∀ (i : Nat) (e : Ent), ((List.range len).map E)[i]? = some e → i < len ∧ e = E i := fun i e he => by
      have hi : i < len := by
        have := (List.getElem?_eq_some_iff.1 he).1
        simpa using this
      rw [List.getElem?_map, List.getElem?_range hi] at he
      exact ⟨hi, by simpa using he.symm⟩
    refine ⟨(List.range len).map E, ?_, by simpa using bound, fun j e he => ?_⟩
    · by_cases h0 : len = 0
      · subst h0
        exact ⟨_, cap, 0, 0, rfl, by simp, fun h => (by simp at h), fun i x h => (by simp at h)⟩
      · obtain ⟨b, o, sp⟩ := a
        have hs : sp = none := by simpa [Addr.add] using World.cell?_spot (hE 0 (by omega)).2.1
        subst hs
        refine ⟨_, cap, b, o, by simp, by simpa using hl, fun _ => rfl, fun i e hi => ?_⟩
        obtain ⟨il, rfl⟩ := get i e hi
        obtain ⟨_, q1, q2, q3⟩ := hE i il
        simp only [add_plain] at q1 q2 q3
        exact ⟨q1, q2, q3⟩
    · obtain ⟨jl, rfl⟩ := get j e he
      exact (hE j jl).1
theorem weights_in {H : Type} {P : Program} {e : TypeId} {d : DataW H} {k : Nat} (hk : k ∈ d.weights P e) : ∀ {l : List (DataW H)}, d ∈ l → k ∈ DataW.weightsAll P e l
  | x :: r, h => by
    rw [DataW.weightsAll, List.mem_append]
    rcases List.mem_cons.1 h with q | q
    · exact Or.inl (by rw [← q]; exact hk)
    · exact Or.inr (weights_in hk q)
/-- Buckets that come in. -/
theorem open_bkts {H : Type} {enc : TypeId × Value → H} {w : World} {n : Nat} {v : Value} {y : DataW H × List MemPlace} (h : DataW.trod enc Try.prog w 0 (fun _ => true) true n 23 [v] = some y) (hw : ∀ m ∈ y.1.weights Try.prog 23, m ≤ reachBytes) :
    ∃ bs : List Bkt, BktsE w v bs ∧ bs.length * 32 ≤ 140737488355328 ∧ ∀ (i : Nat) (b : Bkt), bs[i]? = some b → b.es.length * 32 ≤ 140737488355328 ∧ ∀ (j : Nat) (e : Ent), b.es[j]? = some e → e.k.size ≤ 9223372036854775807 := by
  rcases open_slice_pairs Try.underlying23 Try.underlying56 cellsEB rfl rfl (by kernel_rfl) (by kernel_rfl) h with ⟨e2, _⟩ | ⟨a, len, cap, m, n, V0, V1, D0, D1, P0, P1, e2, _, hl, _, hmm, hy, hx⟩
  · simp only [List.cons.injEq, and_true] at e2
    subst e2
    exact ⟨[], bkts_none w, by simp, fun i b hb => by simp at hb⟩
  · simp only [List.cons.injEq, and_true] at e2
    subst e2
    simp only [if_true] at hmm
    have bound : len * 32 ≤ 140737488355328 := by
      have e := hw ((len + (m - len)) * Try.prog.bytesOf 56) (by rw [hy]; simp [DataW.weights, Try.underlying23])
      rw [bytesEB] at e
      unfold reachBytes at e
      omega
    have each : ∀ i, ∃ b : Bkt, i < len → V1 i = .int .i64 b.ag ∧ EntsE w (V0 i) b.es ∧ b.es.length * 32 ≤ 140737488355328 ∧ ∀ (j : Nat) (e : Ent), b.es[j]? = some e → e.k.size ≤ 9223372036854775807 := fun i => by
      by_cases hi : i < len
      · obtain ⟨_, _, g0, g1⟩ := hx i (by omega)
        obtain ⟨x, ex, _, _⟩ := DataW.trod_int Try.underlying3 g1
        simp only [List.cons.injEq, and_true] at ex
        obtain ⟨l, h1, h2, h3⟩ := open_ents g0 fun k hk => by
          refine hw k ?_
          rw [hy]
          have hm : (DataW.agg [D0 i, D1 i]) ∈ (List.range len).map fun i => DataW.agg [D0 i, D1 i] := List.mem_map.2 ⟨i, List.mem_range.2 hi, rfl⟩
          have hq : k ∈ (DataW.agg [D0 i, D1 i]).weights Try.prog 56 := by
            simp only [DataW.weights, Try.underlying56, DataW.weightsEach, List.map_cons, List.map_nil]
            exact List.mem_append.2 (Or.inl hk)
          have e := weights_in hq hm
          simp only [DataW.weights, Try.underlying23]
          exact List.mem_cons_of_mem _ (List.mem_append.2 (Or.inl e))
        exact ⟨⟨l, x⟩, fun _ => ⟨ex, h1, h2, h3⟩⟩
      · exact ⟨⟨[], 0⟩, fun z => absurd z hi⟩
    obtain ⟨B, hB⟩ := Classical.axiomOfChoice each
    have get : ∀ (i : Nat) (b : Bkt), ((List.range len).map B)[i]? = some b → i < len ∧ b = B i := fun i b hb => by
      have hi : i < len := by
        have := (List.getElem?_eq_some_iff.1 hb).1
        simpa using this
      rw [List.getElem?_map, List.getElem?_range hi] at hb
      exact ⟨hi, by simpa using hb.symm⟩
    refine ⟨(List.range len).map B, ?_, by simpa using bound, fun i b hb => ?_⟩
    · by_cases h0 : len = 0
      · subst h0
        exact ⟨_, cap, 0, 0, rfl, by simp, fun h => (by simp at h), fun i x h => (by simp at h)⟩
      · obtain ⟨b, o, sp⟩ := a
        have hs : sp = none := by simpa [Addr.add] using World.cell?_spot (hx 0 (by omega)).1
        subst hs
        refine ⟨_, cap, b, o, by simp, by simpa using hl, fun _ => rfl, fun i x hi => ?_⟩
        obtain ⟨il, rfl⟩ := get i x hi
        obtain ⟨c1, c2, _, _⟩ := hx i (by omega)
        rw [add_plain] at c1 c2
        rw [(hB i il).1] at c2
        exact ⟨V0 i, c1, c2, (hB i il).2.1⟩
    · obtain ⟨il, rfl⟩ := get i b hb
      exact (hB i il).2.2
/-- A sketch that comes in. -/
def ElIn (w : World) (v : Value) (F : Elk) : Prop := ElAt w v F ∧ U F.S ∧ F.R ≤ 9223372036854775807 ∧ F.bs.length * 32 ≤ 140737488355328 ∧ ∀ (i : Nat) (b : Bkt), F.bs[i]? = some b → b.es.length * 32 ≤ 140737488355328 ∧ ∀ (j : Nat) (e : Ent), b.es[j]? = some e → e.k.size ≤ 9223372036854775807
theorem array7e {α : Type} {cs : Array α} (h : cs.size = 7) : ∃ c0 c1 c2 c3 c4 c5 c6, cs = #[c0, c1, c2, c3, c4, c5, c6] := by
  obtain ⟨l⟩ := cs
  match l, h with
  | [c0, c1, c2, c3, c4, c5, c6], _ => exact ⟨c0, c1, c2, c3, c4, c5, c6, rfl⟩
theorem cellsET : Try.prog.cellsOf 28 = 7 := by kernel_rfl
set_option maxRecDepth 20000 in
theorem open_el {H : Type} {enc : TypeId × Value → H} {w : World} {r : Reach} {b0 : Nat} {v : Value} {d : DataW H} {p : List MemPlace} (hv : Value.okWide Try.prog w r b0 28 v)
    (h : DataW.Trod enc Try.prog w 0 (fun _ => true) true 28 v d p) (hw : ∀ m ∈ d.weights Try.prog 28, m ≤ reachBytes) : ∃ F : Elk, ElIn w v F := by
  obtain ⟨cs, rfl, hsz⟩ := okWide_struct Try.underlying28 hv
  obtain ⟨c0, c1, c2, c3, c4, c5, c6, rfl⟩ := array7e (hsz.trans cellsET)
  obtain ⟨fuel, hf⟩ := h
  obtain ⟨xs, n, _, hd, hl, hlen, hx⟩ := DataW.trod_struct Try.underlying28 hf
  have c22 : Try.prog.cellsOf 22 = 1 := by kernel_rfl
  have c03 : Try.prog.cellsOf 3 = 1 := by kernel_rfl
  have cbs : Try.prog.cellsOf 23 = 1 := by kernel_rfl
  have cft : Try.prog.cellsOf 26 = 3 := by kernel_rfl
  have crr : Try.prog.cellsOf 24 = 1 := by kernel_rfl
  match xs, hlen with
  | [y0, y1, y2, y3, y4], _ =>
    have h0 := hx 0 _ rfl
    have h1 := hx 1 _ rfl
    have h2 := hx 2 _ rfl
    have h3 := hx 3 _ rfl
    have h4 := hx 4 _ rfl
    simp [Value.cells, c22, c03, cbs, cft] at h0 h1 h2 h3 h4
    obtain ⟨S, e0, _, w0⟩ := DataW.trod_int Try.underlying22 h0
    obtain ⟨K, e1, _, w1⟩ := DataW.trod_int Try.underlying3 h1
    obtain ⟨T, e2, _, w2⟩ := DataW.trod_int Try.underlying3 h2
    obtain ⟨zs, n2, _, _, _, zlen, zx⟩ := DataW.trod_struct Try.underlying26 h4
    match zs, zlen with
    | [z0, z1, z2], _ =>
      have g0 := zx 0 _ rfl
      have g1 := zx 1 _ rfl
      have g2 := zx 2 _ rfl
      simp [c22, c03, crr] at g0 g1 g2
      obtain ⟨S2, f0, _, _⟩ := DataW.trod_int Try.underlying22 g0
      obtain ⟨M2, f1, _, _⟩ := DataW.trod_int Try.underlying3 g1
      simp only [List.cons.injEq, and_true] at e0 e1 e2 f0 f1
      subst e0 e1 e2 f0 f1
      obtain ⟨R, L, Z, hr, hR⟩ := open_i64ss (d := z2.1) (p := z2.2) Try.underlying24 Try.underlying57 Try.underlying3 (by kernel_rfl) (by kernel_rfl) g2
      obtain ⟨bs, hb, hb1, hb2⟩ := open_bkts h3 fun k hk => by
        refine hw k ?_
        simp only [Prod.mk.injEq] at hd
        rw [hd.1]
        simp only [DataW.weights, Try.underlying28, List.map_cons, List.map_nil, DataW.weightsEach, List.mem_append]
        exact Or.inr (Or.inr (Or.inr (Or.inl hk)))
      exact ⟨⟨S, K, T, bs, S2, M2, R, L, Z⟩, ⟨_, _, rfl, hb, hr⟩, bounds_u64 w0, hR, hb1, hb2⟩
end Go.Proofs.Ytihealembikkiaa
namespace Go.Proofs.Ytihealembikkiaa
open Go.RowKit Fm Bl Lt El Hv L2 L10 L14 Go.Deep Go.Shelf
set_option linter.unusedVariables false
set_option maxRecDepth 20000

theorem eradd_all (w : World) (x : Value) (S room votes : Int) (bs : List Bkt) (R c : Nat) (Z : Nat → Nat → Int) (s : ByteArray) (b : Bkt) (h : ElAt w x (elF S room votes bs R c Z)) (uS : U S) (rt : RightE (elF S room votes bs R c Z)) (sh : ShortE bs) (hs : s.size ≤ 100) (hb : bs[placeN S s bs.length 0]? = some b) :
    (El.addB room.toNat votes b s = none → Calls Try.prog 19 #[x, .string s] w fun e w' => e = .returned (.tuple #[.agg #[.int .u64 0, .int .i64 0, .int .i64 0, .slice none 0 0, .int .u64 0, .int .i64 0, .slice none 0 0], .bool false]) ∧ Below w.heap.size w w') ∧
    ∀ b' o, El.addB room.toNat votes b s = some (b', o) → Calls Try.prog 19 #[x, .string s] w fun e w' => ∃ x', e = .returned (.tuple #[x', .bool true]) ∧ ElAt w' x' (elF S room votes (bs.set (placeN S s bs.length 0) b') R c (lightO S c Z o)) ∧ Below w.heap.size w w' := by
  have n256 : bs.length ≤ 256 := rt.2.2.2.2.2.1
  have n1 : 1 ≤ bs.length := rt.2.2.2.2.1
  have rb : RightB room b := rt.2.2.2.2.2.2.2.2.2 _ b hb
  have ok : OkP 255 R c Z := rt.2.2.2.2.2.2.1.ok
  have r1 : 1 ≤ room := rt.1
  have r8 : room ≤ 8 := rt.2.1
  have v1 : 1 ≤ votes := rt.2.2.1
  have v2 : votes ≤ 64 := rt.2.2.2.1
  have PC := hidE fun u (q : Below w.heap.size w u) => eplace_any u x _ s (h.keep (keep_of_below q)) uS (by omega) n1 (by show bs.length ≤ 1000; omega)
  obtain ⟨A, n, cap, LA, lcap, hn, rfl, hB, hr⟩ := el_parts h
  have hn : n = bs.length := hn
  have hr : RowsI w (.slice LA R lcap) R (fun _ => c) Z := hr
  obtain ⟨A', cap', bb, o', hv, _, h3, h4⟩ := hB
  simp only [Value.slice.injEq] at hv
  obtain ⟨e1, e2, e3⟩ := hv
  subst e1 e3
  clear e2
  obtain rfl := h3 (by show 0 < bs.length; omega)
  have LC := fun gk gv (gs : gk.size ≤ 100) (g0 : 0 ≤ gv) (g1 : gv ≤ 1099511627776) => hidE fun u (q : Below w.heap.size w u) => radd_held u (.agg #[.int .u64 (rowF S 1), .int .i64 255, .slice LA R lcap]) (rowF S 1) 255 R c Z gk gv ⟨_, rfl, hr.keep (keep_of_below q)⟩ ok (rowF_U S 1) (by omega) g0 g1
  have pn : placeN S s bs.length 0 < n := by rw [hn]; exact (List.getElem?_eq_some_iff.1 hb).1
  obtain ⟨rl, ra0, ra1, re⟩ := id rb
  cases ga : atE b.es s with
  | some i =>
    obtain ⟨e, he, _⟩ := atE_some ga
    rw [addB_at ga he]
    by_cases m : e.v + 1 > 1099511627776
    · rw [if_pos m]
      exact ⟨fun _ => eradd_at_no w S room votes (rowF S 1) 255 LA bb o' n cap R lcap _ c bs b Z s PC (hidE h4) (hidE hn) (hidE hr) pn (by omega) hb rb r1 r8 v1 v2 i e ga he m, fun b' o z => (by cases z)⟩
    · rw [if_neg m]
      refine ⟨fun z => (by cases z), fun b' o z => ?_⟩
      cases z
      exact eradd_at w S room votes (rowF S 1) 255 LA bb o' n cap R lcap _ c bs b Z s PC (hidE h4) (hidE hn) (hidE hr) pn (by omega) hb rb r1 r8 v1 v2 i e ga he m
  | none =>
    by_cases r : b.es.length < room.toNat
    · rw [addB_room ga r]
      refine ⟨fun z => (by cases z), fun b' o z => ?_⟩
      cases z
      exact eradd_room w S room votes (rowF S 1) 255 LA bb o' n cap R lcap _ c bs b Z s PC (hidE h4) (hidE hn) (hidE hr) pn (by omega) hb rb r1 r8 v1 v2 ga (by omega)
    · by_cases a : b.ag + 1 > 1099511627776
      · rw [addB_full ga r a]
        exact ⟨fun _ => eradd_full_no w S room votes (rowF S 1) 255 LA bb o' n cap R lcap _ c bs b Z s PC (hidE h4) (hidE hn) (hidE hr) pn (by omega) hb rb r1 r8 v1 v2 ga (by omega) a, fun b' o z => (by cases z)⟩
      · obtain ⟨e, he⟩ : ∃ e, b.es[lowAt b.es]? = some e := ⟨_, List.getElem?_eq_getElem (lowAt_lt (by omega))⟩
        have r3 := re _ e he
        have ks := sh _ b hb _ e he
        rw [addB_low ga r a he]
        by_cases q : b.ag + 1 ≥ votes * e.v
        · rw [if_pos q]
          refine ⟨fun z => (by cases z), fun b' o z => ?_⟩
          cases z
          exact eradd_in w S room votes (rowF S 1) 255 LA bb o' n cap R lcap _ c bs b Z s PC (hidE h4) (hidE hn) (hidE hr) pn (by omega) hb rb r1 r8 v1 v2 _ ga (by omega) a e he q (LC e.k e.v ks (by omega) r3.2.1)
        · rw [if_neg q]
          refine ⟨fun z => (by cases z), fun b' o z => ?_⟩
          cases z
          exact eradd_out w S room votes (rowF S 1) 255 LA bb o' n cap R lcap _ c bs b Z s PC (hidE h4) (hidE hn) (hidE hr) pn (by omega) hb rb r1 r8 v1 v2 _ ga (by omega) a e he q (LC s 1 hs (by omega) (by omega))
end Go.Proofs.Ytihealembikkiaa
namespace Go.Proofs.Ytihealembikkiaa
open Go.RowKit Fm Bl Lt El Hv L2 L10 L14 Go.Deep Go.Shelf
set_option linter.unusedVariables false
set_option maxRecDepth 20000
set_option linter.unusedSimpArgs false

/-- A bucket with a key more is as short as before. -/
theorem addB_small {room : Nat} {votes : Int} {b b' : Bkt} {s : ByteArray} {o : Option (ByteArray × Int)} (h : El.addB room votes b s = some (b', o)) (hr : b.es.length ≤ room) (hk : ∀ (j : Nat) (e : Ent), b.es[j]? = some e → e.k.size ≤ 100) (hs : s.size ≤ 100) : b'.es.length ≤ room ∧ ∀ (j : Nat) (e : Ent), b'.es[j]? = some e → e.k.size ≤ 100 := by
  have st : ∀ (i : Nat) (x : Ent), x.k.size ≤ 100 → ∀ (j : Nat) (e : Ent), (b.es.set i x)[j]? = some e → e.k.size ≤ 100 := fun i x hx j e he => by
    rw [List.getElem?_set] at he
    split at he
    · split at he
      · cases he; exact hx
      · cases he
    · exact hk j e he
  cases ga : atE b.es s with
  | some i =>
    obtain ⟨e, he, _⟩ := atE_some ga
    rw [addB_at ga he] at h
    split at h
    · cases h
    · cases h
      exact ⟨by simpa using hr, st i ⟨e.k, e.v + 1, e.f⟩ (hk i e he)⟩
  | none =>
    by_cases r : b.es.length < room
    · rw [addB_room ga r] at h
      cases h
      refine ⟨by simp; omega, fun j e he => ?_⟩
      have he : (b.es ++ [(⟨s, 1, false⟩ : Ent)])[j]? = some e := he
      by_cases l : j < b.es.length
      · rw [List.getElem?_append_left l] at he
        exact hk j e he
      · have lt := (List.getElem?_eq_some_iff.1 he).1
        rw [List.getElem?_append_right (by omega)] at he
        have z : j - b.es.length = 0 := by simp at lt; omega
        rw [z] at he
        cases he
        exact hs
    · by_cases a : b.ag + 1 > 1099511627776
      · rw [addB_full ga r a] at h
        cases h
      · cases ge : b.es[lowAt b.es]? with
        | none =>
          unfold El.addB at h
          rw [ga] at h
          simp only [if_neg r, if_neg a, ge] at h
          cases h
        | some e =>
          rw [addB_low ga r a ge] at h
          split at h
          · cases h
            exact ⟨by simpa using hr, st _ _ hs⟩
          · cases h
            exact ⟨hr, hk⟩
theorem listBs_small (most : Int) : ∀ (bs : List Bkt) (l : List Hv.Itm), (∀ b, b ∈ bs → b.es.length ≤ 20) → (listBs most l bs).length ≤ l.length + bs.length * 20
  | [], l, _ => by rw [listBs]; omega
  | b :: r, l, h => by
    rw [listBs]
    have h1 := listBs_small most r (listEs most l b.es) fun x hx => h x (List.mem_cons_of_mem _ hx)
    have h2 := listEs_len most b.es l
    have h3 := h b List.mem_cons_self
    simp only [List.length_cons]
    omega
/-- A right sketch has rows of one length. -/
theorem el_form {w : World} {x : Value} {F : Elk} (h : ElAt w x F) (rt : RightE F) : ElAt w x (elF F.S F.room F.votes F.bs F.R (F.L 0) F.Z) := by
  obtain ⟨bv, rv, rfl, hB, hr⟩ := h
  refine ⟨bv, rv, ?_, hB, hr.congr (fun i hi => (rt.2.2.2.2.2.2.1.2.2.2.2.2.2 i hi).1) fun i j _ _ => rfl⟩
  show Value.agg #[.int .u64 F.S, .int .i64 F.room, .int .i64 F.votes, bv, .int .u64 F.LS, .int .i64 F.LM, rv] = Value.agg #[.int .u64 F.S, .int .i64 F.room, .int .i64 F.votes, bv, .int .u64 (rowF F.S 1), .int .i64 255, rv]
  rw [rt.2.2.2.2.2.2.2.1, rt.2.2.2.2.2.2.2.2.1]
theorem right_form {F : Elk} (rt : RightE F) : RightE (elF F.S F.room F.votes F.bs F.R (F.L 0) F.Z) := by
  have ok := rt.2.2.2.2.2.2.1.ok
  rw [rt.2.2.2.2.2.2.2.1] at ok
  exact ⟨rt.1, rt.2.1, rt.2.2.1, rt.2.2.2.1, rt.2.2.2.2.1, rt.2.2.2.2.2.1, ok.right, rfl, rfl, rt.2.2.2.2.2.2.2.2.2⟩
/-- The sketch with a key more is small. -/
theorem small_set {F : Elk} (rt : RightE F) (sm : SmallE F) {p : Nat} {b b' : Bkt} {s : ByteArray} {o : Option (ByteArray × Int)} (hb : F.bs[p]? = some b) (h : El.addB F.room.toNat F.votes b s = some (b', o)) (hs : s.size ≤ 100) (Z : Nat → Nat → Int) : SmallE (elF F.S F.room F.votes (F.bs.set p b') F.R (F.L 0) Z) := by
  have ok := rt.2.2.2.2.2.2.1.ok
  have r8 := rt.2.1
  have r1 := rt.1
  have rb := rt.2.2.2.2.2.2.2.2.2 _ b hb
  have q := addB_small h (by have := rb.1; omega) (sm.2.2 _ b hb).2 hs
  refine ⟨by show (F.bs.set p b').length ≤ 300; rw [List.length_set]; exact sm.1, ⟨sm.2.1.1, fun i hi => by have : F.L 0 ≤ 256 := ok.2.2.2.2.2.1; show F.L 0 ≤ 300; omega⟩, fun i x hx => ?_⟩
  have hx : (F.bs.set p b')[i]? = some x := hx
  rw [List.getElem?_set] at hx
  split at hx
  · split at hx
    · cases hx
      exact ⟨by have := q.1; omega, q.2⟩
    · cases hx
  · exact sm.2.2 i x hx
/-- What the program's calls tell of a right sketch. -/
def AddN (w : World) (v : Value) (s : ByteArray) : Prop := ∀ u, Below w.heap.size w u → Calls Try.prog 11 #[v, .string s] u fun e w' => e = .returned (.tuple #[elz, .int .i64 5]) ∧ Below u.heap.size u w'
def AddS (w : World) (v : Value) (s : ByteArray) (G : Elk) : Prop := ∀ u, Below w.heap.size w u → Calls Try.prog 11 #[v, .string s] u fun e w' => ∃ x', e = .returned (.tuple #[x', .int .i64 0]) ∧ (∀ u2, Below w'.heap.size w' u2 → ElAt u2 x' G) ∧ Below u.heap.size u w'
def RAddN (w : World) (v : Value) (s : ByteArray) : Prop := ∀ u, Below w.heap.size w u → Calls Try.prog 19 #[v, .string s] u fun e w' => e = .returned (.tuple #[elz, .bool false]) ∧ Below u.heap.size u w'
def RAddS (w : World) (v : Value) (s : ByteArray) (G : Elk) : Prop := ∀ u, Below w.heap.size w u → Calls Try.prog 19 #[v, .string s] u fun e w' => ∃ x', e = .returned (.tuple #[x', .bool true]) ∧ (∀ u2, Below w'.heap.size w' u2 → ElAt u2 x' G) ∧ Below u.heap.size u w'
theorem add_turns (C : CtrE) (w : World) (x : Value) (F : Elk) (s : ByteArray) (b : Bkt) (h : ElAt w x F) (uS : U F.S) (rt : RightE F) (sm : SmallE F) (hs : s.size ≤ 100) (hb : F.bs[placeN F.S s F.bs.length 0]? = some b) :
    (El.addB F.room.toNat F.votes b s = none → AddN w x s) ∧ ∀ b' o, El.addB F.room.toNat F.votes b s = some (b', o) → AddS w x s (elF F.S F.room F.votes (F.bs.set (placeN F.S s F.bs.length 0) b') F.R (F.L 0) (lightO F.S (F.L 0) F.Z o)) := by
  have h' := el_form h rt
  have rt' := right_form rt
  have sh : ShortE F.bs := fun i x hx => (sm.2.2 i x hx).2
  refine ⟨fun z u q => C.add_full u x _ _ _ _ _ _ _ s b (h'.keep (keep_of_below q)) uS rt' sh hs hb z, fun b' o z u q => ?_⟩
  have hD : Held (fun _ => True) (fun v => ElAt v x (elF F.S F.room F.votes F.bs F.R (F.L 0) F.Z)) u := fun v e => (h'.keep (keep_of_below q)).keep e.keep
  refine (C.add_ok u x _ _ _ _ _ _ _ s b b' o (fun _ => True) (fun _ _ => trivial) hD uS rt' sh hs hb z).mono fun e w' t => ?_
  obtain ⟨x', h1, h2, h3⟩ := t
  exact ⟨x', h1, fun v e => (h2.since e).at, h3⟩
theorem radd_turns (w : World) (x : Value) (F : Elk) (s : ByteArray) (b : Bkt) (h : ElAt w x F) (uS : U F.S) (rt : RightE F) (sm : SmallE F) (hs : s.size ≤ 100) (hb : F.bs[placeN F.S s F.bs.length 0]? = some b) :
    (El.addB F.room.toNat F.votes b s = none → RAddN w x s) ∧ ∀ b' o, El.addB F.room.toNat F.votes b s = some (b', o) → RAddS w x s (elF F.S F.room F.votes (F.bs.set (placeN F.S s F.bs.length 0) b') F.R (F.L 0) (lightO F.S (F.L 0) F.Z o)) := by
  have h' := el_form h rt
  have rt' := right_form rt
  have sh : ShortE F.bs := fun i x hx => (sm.2.2 i x hx).2
  refine ⟨fun z u q => (eradd_all u x _ _ _ _ _ _ _ s b (h'.keep (keep_of_below q)) uS rt' sh hs hb).1 z, fun b' o z u q => ?_⟩
  refine ((eradd_all u x _ _ _ _ _ _ _ s b (h'.keep (keep_of_below q)) uS rt' sh hs hb).2 b' o z).mono fun e w' t => ?_
  obtain ⟨x', h1, h2, h3⟩ := t
  exact ⟨x', h1, fun v e => h2.keep (keep_of_below e), h3⟩
def GetS (w : World) (f : Nat) (v : Value) (s : ByteArray) (lo hi : Int) (ex fu : Bool) : Prop := ∀ u, Below w.heap.size w u → Calls Try.prog f #[v, .string s] u fun e w' => e = .returned (.tuple #[.int .i64 lo, .int .i64 hi, .bool ex, .bool fu]) ∧ Below u.heap.size u w'
def ListS (w : World) (f : Nat) (v : Value) (most : Int) (l : List Itm) : Prop := ∀ u, Below w.heap.size w u → Calls Try.prog f #[v, .int .i64 most] u fun e w' => ∃ lv, e = .returned lv ∧ (∀ u2, Below w'.heap.size w' u2 → ItsL u2 lv l) ∧ Below u.heap.size u w'
def RightS (w : World) (f : Nat) (v : Value) : Prop := ∀ u, Below w.heap.size w u → Calls Try.prog f #[v] u fun e w' => e = .returned (.bool true) ∧ Below u.heap.size u w'
theorem get_turns (C : CtrE) (w : World) (x : Value) (F : Elk) (s : ByteArray) (b : Bkt) (lo hi : Int) (ex fu : Bool) (h : ElAt w x F) (uS : U F.S) (rt : RightE F) (sm : SmallE F) (hs : s.size ≤ 100) (hb : F.bs[placeN F.S s F.bs.length 0]? = some b) (hg : getE F.R (F.L 0) F.LS b F.Z s = (lo, hi, ex, fu)) : GetS w 12 x s lo hi ex fu := fun u q =>
  C.get_ok u x F.S F.room F.votes F.bs F.R (F.L 0) F.Z s b lo hi ex fu ((el_form h rt).keep (keep_of_below q)) uS (right_form rt) (fun i x hx => (sm.2.2 i x hx).2) hs hb (by rw [← rt.2.2.2.2.2.2.2.2.1]; exact hg)
theorem rget_turns (w : World) (x : Value) (F : Elk) (s : ByteArray) (b : Bkt) (lo hi : Int) (ex fu : Bool) (h : ElAt w x F) (uS : U F.S) (rt : RightE F) (hs : s.size ≤ 100) (hb : F.bs[placeN F.S s F.bs.length 0]? = some b) (hg : getE F.R (F.L 0) F.LS b F.Z s = (lo, hi, ex, fu)) : GetS w 16 x s lo hi ex fu := fun u q =>
  eget_any u x F s b lo hi ex fu (h.keep (keep_of_below q)) uS rt hs hb hg
theorem list_turns (C : CtrE) (w : World) (x : Value) (F : Elk) (most : Int) (h : ElAt w x F) (uS : U F.S) (rt : RightE F) (sm : SmallE F) (im : I most) : ListS w 13 x most (listBs most [] F.bs) := fun u q =>
  (C.list_ok u x F most (h.keep (keep_of_below q)) uS rt (fun i x hx => (sm.2.2 i x hx).2) im).mono fun e w' t => by
    obtain ⟨lv, h1, h2, h3⟩ := t
    exact ⟨lv, h1, fun v e => (newL_next h2 e).its, h3⟩
theorem rlist_turns (w : World) (x : Value) (F : Elk) (most : Int) (h : ElAt w x F) (sm : SmallE F) : ListS w 18 x most (listBs most [] F.bs) := fun u q =>
  (elist_any u x F most (h.keep (keep_of_below q)) sm.1 (fun i x hx => (sm.2.2 i x hx).1)).mono fun e w' t => by
    obtain ⟨lv, h1, h2, h3⟩ := t
    exact ⟨lv, h1, fun v e => (newL_next h2 e).its, h3⟩
theorem right_turns (C : CtrE) (w : World) (x : Value) (F : Elk) (h : ElAt w x F) (uS : U F.S) (rt : RightE F) (sm : SmallE F) : RightS w 15 x := fun u q =>
  (C.right u x F (h.keep (keep_of_below q)) uS sm).mono fun e w' t => by
    obtain ⟨B, rfl, h2, h3⟩ := t
    exact ⟨by rw [h2.2 rt], h3⟩
end Go.Proofs.Ytihealembikkiaa
