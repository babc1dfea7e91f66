
/-
  How the items of a list stand, keys that are the same among them (layer 15): plain mathematics.
  slices.SortFunc of items: what the library's shelf says of it, over this program; items sorted, keys that are the same among them (layer 15).
  List of layer 15 (elastic): what the code answers.
  The contracts of layer 15 (elastic), off the code: all that the laws are walked over.
-/
import Derived.Test.YtihealembikkiaaElCtr
import Derived.Test.YtihealembikkiaaHevStd
import Derived.Shelf.SlSortCmp.NoneTotal
import Derived.Test.YtihealembikkiaaElM3
import Derived.Deep.AppendLies
import Derived.Test.YtihealembikkiaaElM4
namespace Go.Proofs.Ytihealembikkiaa
open Go.RowKit Fm Bl Lt El Hv L2 L10 L14 Go.Deep
set_option linter.unusedVariables false
set_option maxRecDepth 20000

theorem itm_one {x y : Itm} (h : ¬ Ahead x y) (k : ¬ Ahead y x) : x = y := by
  obtain ⟨s, c⟩ := x
  obtain ⟨t, d⟩ := y
  unfold Ahead at h k
  simp only [not_or, not_and] at h k
  have e : c = d := by omega
  subst e
  have e2 : s = t := Classical.byContradiction fun n => (lessK_total n).elim (h.2 rfl) (k.2 rfl)
  rw [e2]
/-- None stands ahead of one that is ahead of it. -/
def NoneA (l : List Itm) : Prop := l.Pairwise fun a b => ¬ Ahead b a
theorem putL_noneA {l : List Itm} {x : Itm} (h : NoneA l) : NoneA (putL l x) := by
  unfold NoneA at h ⊢
  induction l with
  | nil => simp [putL]
  | cons y r ih =>
    rw [List.pairwise_cons] at h
    rw [putL]
    by_cases e : aheadB x y = true
    · rw [if_pos e]
      have a := (aheadB_iff _ _).1 e
      rw [List.pairwise_cons]
      refine ⟨fun b hb hx => ?_, List.pairwise_cons.2 h⟩
      rcases List.mem_cons.1 hb with rfl | m
      · exact ahead_irrefl _ (ahead_trans hx a)
      · exact h.1 b m (ahead_trans hx a)
    · rw [if_neg e, List.pairwise_cons]
      refine ⟨fun b hb => ?_, ih h.2⟩
      rcases (putL_mem r x b).1 hb with rfl | m
      · exact fun z => e ((aheadB_iff _ _).2 z)
      · exact h.1 b m
theorem putL_perm : ∀ (l : List Itm) (x : Itm), (putL l x).Perm (x :: l)
  | [], x => List.Perm.refl _
  | y :: r, x => by
    rw [putL]
    split
    · exact List.Perm.refl _
    · exact ((putL_perm r x).cons y).trans (List.Perm.swap x y r)
theorem noneA_unique : ∀ {a b : List Itm}, a.Perm b → NoneA a → NoneA b → a = b
  | [], b, p, _, _ => p.nil_eq
  | x :: r, [], p, _, _ => by have := p.length_eq; simp at this
  | x :: r, y :: t, p, ha, hb => by
    unfold NoneA at ha hb
    rw [List.pairwise_cons] at ha hb
    have e : x = y := by
      rcases List.mem_cons.1 (p.mem_iff.1 (List.mem_cons_self ..)) with h | h
      · exact h
      · rcases List.mem_cons.1 (p.mem_iff.2 (List.mem_cons_self ..)) with k | k
        · exact k.symm
        · exact itm_one (hb.1 x h) (ha.1 y k)
    subst e
    rw [noneA_unique (List.Perm.cons_inv p) ha.2 hb.2]
/-- The items of a bucket, of all buckets, that have so many votes, as they lie. -/
def itE (most : Int) : List Ent → List Itm
  | [] => []
  | e :: r => if e.v ≥ most then ⟨e.k, e.v⟩ :: itE most r else itE most r
def itB (most : Int) : List Bkt → List Itm
  | [] => []
  | b :: r => itE most b.es ++ itB most r
theorem itE_append (most : Int) : ∀ l m, itE most (l ++ m) = itE most l ++ itE most m
  | [], m => rfl
  | e :: r, m => by
    rw [List.cons_append, itE, itE, itE_append most r m]
    split
    · rfl
    · rfl
theorem itB_append (most : Int) : ∀ l m, itB most (l ++ m) = itB most l ++ itB most m
  | [], m => rfl
  | e :: r, m => by rw [List.cons_append, itB, itB, itB_append most r m, List.append_assoc]
theorem itE_len (most : Int) : ∀ l, (itE most l).length ≤ l.length
  | [] => Nat.le_refl _
  | e :: r => by
    have := itE_len most r
    rw [itE]
    split
    · simp only [List.length_cons]; omega
    · simp only [List.length_cons]; omega
theorem listEs_perm (most : Int) : ∀ (es : List Ent) (l : List Itm), (listEs most l es).Perm (l ++ itE most es)
  | [], l => by rw [listEs, itE, List.append_nil]
  | e :: r, l => by
    rw [listEs, itE]
    refine (listEs_perm most r _).trans ?_
    split
    · refine ((putL_perm l _).append_right _).trans ?_
      rw [List.cons_append]
      exact List.perm_middle.symm
    · exact List.Perm.refl _
theorem listEs_noneA (most : Int) : ∀ (es : List Ent) (l : List Itm), NoneA l → NoneA (listEs most l es)
  | [], l, h => h
  | e :: r, l, h => by
    rw [listEs]
    refine listEs_noneA most r _ ?_
    split
    · exact putL_noneA h
    · exact h
theorem listBs_perm (most : Int) : ∀ (bs : List Bkt) (l : List Itm), (listBs most l bs).Perm (l ++ itB most bs)
  | [], l => by rw [listBs, itB, List.append_nil]
  | b :: r, l => by
    rw [listBs, itB]
    refine (listBs_perm most r _).trans ?_
    rw [← List.append_assoc]
    exact (listEs_perm most b.es l).append_right _
theorem listBs_noneA (most : Int) : ∀ (bs : List Bkt) (l : List Itm), NoneA l → NoneA (listBs most l bs)
  | [], l, h => h
  | b :: r, l, h => by
    rw [listBs]
    exact listBs_noneA most r _ (listEs_noneA most b.es l h)
theorem list_sorted {most : Int} {bs : List Bkt} {d : List Itm} (p : d.Perm (itB most bs)) (h : NoneA d) : d = listBs most [] bs :=
  noneA_unique (p.trans (by have := listBs_perm most bs []; rw [List.nil_append] at this; exact this.symm)) h (listBs_noneA most bs [] List.Pairwise.nil)
end Go.Proofs.Ytihealembikkiaa
namespace Go.Proofs.Ytihealembikkiaa
open Go.RowKit Hv Go.Deep Go.Shelf L14
set_option linter.unusedVariables false
set_option maxRecDepth 20000

/-- slices.SortFunc is here as the library's shelf has it. -/
def rhoI : Go.Shelf.Ren := { f := fun n => if n = 6 then 34 else if n = 14 then 60 else if n = 15 then 61 else if n = 20 then 82 else if n = 21 then 83 else if n = 22 then 84 else if n = 23 then 85 else if n = 24 then 86 else if n = 25 then 87 else if n = 26 then 88 else if n = 27 then 89 else if n = 28 then 90 else if n = 29 then 91 else if n = 46 then 100 else if n = 47 then 101 else if n = 48 then 102 else if n = 49 then 103 else if n = 50 then 104 else 107, t := fun t => if t = 0 then 0 else if t = 3 then 3 else if t = 4 then 4 else if t = 5 then 5 else if t = 9 then 9 else if t = 22 then 41 else if t = 24 then 68 else if t = 25 then 89 else if t = 39 then 116 else if t = 45 then 131 else if t = 46 then 132 else if t = 50 then 85 else if t = 53 then 138 else if t = 55 then 22 else if t = 66 then 147 else if t = 70 then 109 else if t = 76 then 154 else 155, g := fun _ => 0 }
theorem laysI : SlLaysF0.n6 Try.prog rhoI := by
  constructor
  case f6 => exact ⟨"slices.SortFunc[[]rillmeter/heavy.Item,rillmeter/heavy.Item]", by decide, by kernel_rfl⟩
  case f14 => exact ⟨"slices.pdqsortCmpFunc[rillmeter/heavy.Item]", by decide, by kernel_rfl⟩
  case f20 => exact ⟨"slices.insertionSortCmpFunc[rillmeter/heavy.Item]", by decide, by kernel_rfl⟩
  case f21 => exact ⟨"slices.heapSortCmpFunc[rillmeter/heavy.Item]", by decide, by kernel_rfl⟩
  case f22 => exact ⟨"slices.breakPatternsCmpFunc[rillmeter/heavy.Item]", by decide, by kernel_rfl⟩
  case f23 => exact ⟨"slices.choosePivotCmpFunc[rillmeter/heavy.Item]", by decide, by kernel_rfl⟩
  case f24 => exact ⟨"slices.reverseRangeCmpFunc[rillmeter/heavy.Item]", by decide, by kernel_rfl⟩
  case f25 => exact ⟨"slices.partialInsertionSortCmpFunc[rillmeter/heavy.Item]", by decide, by kernel_rfl⟩
  case f26 => exact ⟨"slices.partitionEqualCmpFunc[rillmeter/heavy.Item]", by decide, by kernel_rfl⟩
  case f27 => exact ⟨"slices.partitionCmpFunc[rillmeter/heavy.Item]", by decide, by kernel_rfl⟩
  case f46 => exact ⟨"slices.siftDownCmpFunc[rillmeter/heavy.Item]", by decide, by kernel_rfl⟩
  case f49 => exact ⟨"slices.medianAdjacentCmpFunc[rillmeter/heavy.Item]", by decide, by kernel_rfl⟩
  case f50 => exact ⟨"slices.medianCmpFunc[rillmeter/heavy.Item]", by decide, by kernel_rfl⟩
  case f57 => exact ⟨"slices.order2CmpFunc[rillmeter/heavy.Item]", by decide, by kernel_rfl⟩
  all_goals first | kernel_rfl | (intro w; kernel_rfl)
def encI (x : Itm) : List Value := [.string x.k, .int .i64 x.c]
theorem ltOf_std (x y : Itm) : Go.Proofs.ltOf stdF x y = aheadB x y := by
  unfold Go.Proofs.ltOf
  rw [Bool.eq_iff_iff, decide_eq_true_iff, stdF_neg, aheadB_iff]
theorem swoI : Go.Sort.SWO (Go.Proofs.ltOf stdF) where
  irrefl x := by
    rw [ltOf_std]
    cases e : aheadB x x with
    | false => rfl
    | true => exact absurd ((aheadB_iff _ _).1 e) (ahead_irrefl x)
  trans x y z h1 h2 := by
    rw [ltOf_std] at *
    exact (aheadB_iff _ _).2 (ahead_trans ((aheadB_iff _ _).1 h1) ((aheadB_iff _ _).1 h2))
  ntrans x y z h1 h2 := by
    rw [ltOf_std] at *
    have n1 : ¬ Ahead x y := fun h => by rw [(aheadB_iff _ _).2 h] at h1; cases h1
    have n2 : ¬ Ahead y z := fun h => by rw [(aheadB_iff _ _).2 h] at h2; cases h2
    cases e : aheadB x z with
    | false => rfl
    | true =>
      have a := (aheadB_iff _ _).1 e
      by_cases h : Ahead y x
      · exact absurd (ahead_trans h a) n2
      · rw [itm_one n1 h] at a
        exact absurd a n2
theorem cmpI_lays [Inhabited Itm] (blk off size : Nat) (w : World) : Go.Proofs.CmpLays Try.prog 35 #[] encI 2 stdF blk off size w := fun m os dk hdk x y =>
  (standing_any _ x.k x.c y.k y.c).mono fun e w' h => ⟨h.1, h.2.ex⟩
theorem holdsI [Inhabited Itm] {w : World} {Bd g cap : Nat} {l : List Itm} (h : w.ownsRow Bd 68 2 (.slice (some ⟨g, 0, none⟩) l.length cap) l.length (lCells l)) : Go.Sort.HoldsK encI 2 w g 0 l.toArray := by
  intro j hj
  have hj2 : j < l.length * 2 := by simpa using hj
  rw [Go.Sort.get_flatK _ _ _ _ (by simpa using hj2), Nat.zero_add]
  refine ⟨?_, World.ownsRow.frozenAt h j⟩
  rw [World.ownsRow.cellAt h j (by omega)]
  obtain ⟨x, hx⟩ : ∃ x, l[j / 2]? = some x := ⟨_, List.getElem?_eq_getElem (by omega)⟩
  obtain ⟨g1, g2⟩ := lCells_get l _ _ hx
  have e : l.toArray[j / 2]! = x := by
    rw [getElem!_pos l.toArray (j / 2) (by simp; omega)]
    have := (List.getElem?_eq_some_iff.1 hx).2
    simpa using this
  rw [e]
  rcases Nat.mod_two_eq_zero_or_one j with m | m
  · rw [show j / 2 * 2 = j by omega] at g1
    rw [g1, m]; rfl
  · rw [show j / 2 * 2 + 1 = j by omega] at g2
    rw [g2, m]; rfl
theorem esorted_list [Inhabited Itm] {l m : List Itm} {d : Array Itm} (hp : Go.Sort.PermIn 0 l.toArray.size l.toArray d) (hs : Go.Sort.SortedIn (Go.Proofs.ltOf stdF) 0 l.toArray.size d) (hm : NoneA m) (pm : l.Perm m) : d.toList = m ∧ d.size = l.length := by
  obtain ⟨h1, _, h3⟩ := hp
  have z : d.size = l.length := by simpa using h1
  have h4 : d.toList.Perm l := by
    have a1 : d.extract 0 l.toArray.size = d := by apply Array.extract_eq_self_of_le; omega
    have a2 : l.toArray.extract 0 l.toArray.size = l.toArray := by apply Array.extract_eq_self_of_le; omega
    rw [a1, a2] at h3
    simpa using h3
  refine ⟨noneA_unique (h4.trans pm) ?_ hm, z⟩
  unfold NoneA
  rw [List.pairwise_iff_getElem]
  intro i j hi hj ij
  have hi' : i < d.size := by simpa using hi
  have hj' : j < d.size := by simpa using hj
  have s1 := hs i j (Nat.zero_le _) ij (by simp; omega)
  rw [ltOf_std, getElem!_pos d j hj', getElem!_pos d i hi'] at s1
  have s2 : ¬ Ahead d[j] d[i] := fun h => by rw [(aheadB_iff _ _).2 h] at s1; cases s1
  simpa using s2
theorem grownBy_sortedK [Inhabited Itm] {w : World} {g n : Nat} {os : Array Obj} (d : Array Itm) : w.grownBy (Go.Proofs.sortWorldK encI 2 w g 0 n d os) (some g) := by
  refine ⟨rfl, rfl, rfl, by simp [Go.Proofs.sortWorldK, Go.Sort.putRowK, Go.Sort.ahead], fun k hk hne => ?_⟩
  unfold Go.Proofs.sortWorldK Go.Sort.putRowK
  rw [Go.Sort.heap_grow_old _ _ (by simpa [Go.Sort.ahead] using hk)]
  have : g ≠ k := fun e => hne (by rw [e])
  simp [Go.Sort.putRow, Go.Sort.mapBlock, Go.Sort.ahead, Array.getElem?_modify, this]
/-- Items in a row that is known, sorted. -/
theorem esortI_any (w : World) (Bd g cap : Nat) (l m : List Itm) (h : w.ownsRow Bd 68 2 (.slice (some ⟨g, 0, none⟩) l.length cap) l.length (lCells l)) (hc : l.length ≤ cap) (hn : l.length ≤ 100000) (hm : NoneA m) (pm : l.Perm m) (hg : Bd ≤ g) (hl : g < w.heap.size) (hb : Bd ≤ w.heap.size) :
    Calls Try.prog 34 #[.slice (some ⟨g, 0, none⟩) l.length cap, .func (.func 35) #[] #[]] w fun e w' => e = .returned (.tuple #[]) ∧ Held (fun q => q = g) (fun u => ItsL u (.slice (some ⟨g, 0, none⟩) l.length cap) m) w' ∧ Below Bd w w' := by
  haveI : Inhabited Itm := ⟨⟨⟨#[]⟩, 0⟩⟩
  have eg : ∀ args w, (callFunc 35 args).run Try.prog w = .ok (.enter 35 args) w := enters_of Try.func35 (by kernel_rfl) rfl
  have hcon := Go.Proofs.AnyQ.slices_SortFunc laysI 2 (fun w => by kernel_rfl) (fun w => by kernel_rfl) encI (fun _ => rfl) (fun x v hv => by simp [encI] at hv; rcases hv with rfl | rfl <;> rfl) stdF swoI 35 #[] g 0 cap l.toArray w eg (cmpI_lays g 0 _ w) (holdsI h) hl (by simp; omega)
  have ez : l.toArray.size = l.length := by simp
  rw [ez] at hcon
  refine Go.Calls.mono hcon ?_
  rintro e w' ⟨rfl, d', n, os, hp, hs, rfl⟩
  rw [← ez] at hp hs
  obtain ⟨ed, zd⟩ := esorted_list hp hs hm pm
  have hH2 := Go.Proofs.holdsK_sortWorldK_c encI 2 w g 0 l.toArray d' n os (holdsI h) hl (by rw [zd]; simp)
  refine ⟨rfl, fun u hu => ?_, ?_⟩
  · have bl : g < (Go.Proofs.sortWorldK encI 2 w g 0 n d' os).heap.size := by have := (grownBy_sortedK (w := w) (g := g) (n := n) (os := os) d').size; omega
    have eb := hu.2 g rfl bl
    have ml : m.length = l.length := by rw [← ed]; simpa using zd
    refine ⟨some ⟨g, 0, none⟩, cap, g, 0, by rw [ml], by omega, fun _ => rfl, fun i x hi => ?_⟩
    have il : i < d'.size := by rw [zd, ← ml]; exact (List.getElem?_eq_some_iff.1 hi).1
    have ex : d'[i]! = x := by
      rw [getElem!_pos d' i il]
      rw [← ed] at hi
      have := (List.getElem?_eq_some_iff.1 hi).2
      simpa using this
    have c0 := (Go.Sort.HoldsK.cell hH2 (c := 0) il (by omega)).1
    have c1 := (Go.Sort.HoldsK.cell hH2 (c := 1) il (by omega)).1
    rw [ex] at c0 c1
    rw [World.cell?_of_block (w' := u) (a := ⟨g, 0 + i * 2, none⟩) eb, World.cell?_of_block (w' := u) (a := ⟨g, 0 + i * 2 + 1, none⟩) eb]
    exact ⟨c0, c1⟩
  · exact (Below.refl Bd w).grown (grownBy_sortedK d') hb (fun q hq => by cases hq; exact hg)
end Go.Proofs.Ytihealembikkiaa
namespace Go.Proofs.Ytihealembikkiaa
open Go.RowKit Fm Bl Lt El Hv L2 L10 L14 Go.Deep Go.Shelf
set_option linter.unusedVariables false
set_option maxRecDepth 20000
set_option linter.unusedSimpArgs false

theorem infoHI3 : ∃ i, Try.prog.info? 68 = some i ∧ i.zero = some (.agg #[.string ⟨#[]⟩, .int .i64 0]) ∧ i.size = 2 ∧ i.bytes = 24 := by
  have h : (Try.prog.info? 68).map (fun i => (i.zero, i.size, i.bytes)) = some (some (.agg #[.string ⟨#[]⟩, .int .i64 0]), 2, 24) := by kernel_rfl
  obtain ⟨i, hi, hzz⟩ := Option.map_eq_some_iff.1 h
  simp only [Prod.mk.injEq] at hzz
  exact ⟨i, hi, hzz⟩
theorem esortF (w : World) (Bd : Nat) (v : Value) (l m : List Itm) (h : w.ownsRow Bd 68 2 v l.length (lCells l)) (hn : l.length ≤ 100000) (hm : NoneA m) (pm : l.Perm m) (hb : Bd ≤ w.heap.size) :
    Calls Try.prog 34 #[v, .func (.func 35) #[] #[]] w fun e w' => e = .returned (.tuple #[]) ∧ Held (fun q => Bd ≤ q) (fun u => ItsL u v m) w' ∧ Below Bd w w' := by
  rcases h.2 with ⟨rfl, z⟩ | ⟨g, cap, cur, rfl, hg, hh, hc, _⟩
  · have e : l = [] := List.length_eq_zero_iff.1 z
    subst e
    obtain rfl : m = [] := pm.nil_eq.symm
    refine (Go.Proofs.AnyF.slices_SortFunc_none laysI none 0 (.func (.func 35) #[] #[]) w).mono ?_
    rintro e w1 ⟨rfl, rfl⟩
    exact ⟨rfl, fun u _ => its_none u, Below.refl _ _⟩
  · have lt : g < w.heap.size := (h.lt g rfl).2
    refine (esortI_any w Bd g cap l m h hc hn hm pm hg lt hb).mono fun e w1 q => ⟨q.1, q.2.1.mono fun p _ d => by rw [d]; exact hg, q.2.2⟩
theorem take_itB {most : Int} {bs : List Bkt} {k : Nat} {y : Bkt} (h : bs[k]? = some y) : itB most (bs.take (k + 1)) = itB most (bs.take k) ++ itE most y.es := by
  rw [List.take_add_one, h]
  show itB most (bs.take k ++ [y]) = _
  rw [itB_append]
  simp [itB]
theorem take_itE {most : Int} {es : List Ent} {j : Nat} {e : Ent} (h : es[j]? = some e) : itE most (es.take (j + 1)) = itE most (es.take j) ++ (if e.v ≥ most then [⟨e.k, e.v⟩] else []) := by
  rw [List.take_add_one, h]
  show itE most (es.take j ++ [e]) = _
  rw [itE_append]
  congr 1
theorem growL_len {t : TypeId} {w wr : World} {A : Option Addr} {m c : Nat} {l : List Itm} (h : GrowL t w wr (.slice A m c) l) : m = l.length := by
  rcases h.own.2 with ⟨e, z⟩ | ⟨g, cap, cur, e, _⟩
  · cases e; exact z.symm
  · cases e; rfl
set_option maxHeartbeats 1600000 in
theorem elistC_bad0 (w : World) (S room votes LS LM : Int) (A LA : Option Addr) (n cap R lcap : Nat) (most : Int) (RC : Hid (∀ u, Below w.heap.size w u → Calls Try.prog 15 #[.agg #[.int .u64 S, .int .i64 room, .int .i64 votes, .slice A n cap, .int .u64 LS, .int .i64 LM, .slice LA R lcap]] u fun e w' => e = .returned (.bool false) ∧ Below u.heap.size u w')) : Calls Try.prog 13 #[.agg #[.int .u64 S, .int .i64 room, .int .i64 votes, .slice A n cap, .int .u64 LS, .int .i64 LM, .slice LA R lcap], .int .i64 most] w fun e w' => e = .returned (.slice none 0 0) ∧ Below w.heap.size w w' := by
  have BX : Hid (Below w.heap.size w (w.alloc (.cells #[.int .u64 S, .int .i64 room, .int .i64 votes, .slice A n cap, .int .u64 LS, .int .i64 LM, .slice LA R lcap] 28))) := bel_alloc _ _
  go_enter Try.func13, Try.ntmps13
  go_wp2_with fail
  refine (RC.out _ BX.out).mono ?_
  rintro e u1 ⟨rfl, b1⟩
  go_wp2_with fail
  go_ret
  exact ⟨rfl, bel_trans BX.out b1⟩
set_option maxHeartbeats 6400000 in
theorem elistC_ok0 (w : World) (S room votes LS LM : Int) (A LA : Option Addr) (n cap R lcap : Nat) (bs : List Bkt) (most : Int) (RC : Hid (∀ u, Below w.heap.size w u → Calls Try.prog 15 #[.agg #[.int .u64 S, .int .i64 room, .int .i64 votes, .slice A n cap, .int .u64 LS, .int .i64 LM, .slice LA R lcap]] u fun e w' => e = .returned (.bool true) ∧ Below u.heap.size u w')) (hB : BktsE w (.slice A n cap) bs) (hn : n = bs.length) (n1 : n ≤ 300) (hE : ∀ (i : Nat) (b : Bkt), bs[i]? = some b → b.es.length ≤ 20) :
    Calls Try.prog 13 #[.agg #[.int .u64 S, .int .i64 room, .int .i64 votes, .slice A n cap, .int .u64 LS, .int .i64 LM, .slice LA R lcap], .int .i64 most] w fun e w' => ∃ lv, e = .returned lv ∧ NewL w w' lv (listBs most [] bs) ∧ Below w.heap.size w w' := by
  obtain ⟨A', cap', b, o, hv, hc, h3, h4⟩ := hB
  simp only [Value.slice.injEq] at hv
  obtain ⟨e1, e2, e3⟩ := hv
  subst e1 e3
  clear e2
  have H3 := hidE h3
  have H4 := hidE h4
  have HE := hidE hE
  have HN := hidE hn
  obtain ⟨it, hi, hz0, hz1, hz2⟩ := infoHI3
  have HT : Hid (Try.prog.info? 68 = some it ∧ it.zero = some (.agg #[.string ⟨#[]⟩, .int .i64 0]) ∧ it.size = 2 ∧ it.bytes = 24) := ⟨hi, hz0, hz1, hz2⟩
  have BX : Hid (Below w.heap.size w (w.alloc (.cells #[.int .u64 S, .int .i64 room, .int .i64 votes, .slice A n cap, .int .u64 LS, .int .i64 LM, .slice LA R lcap] 28))) := bel_alloc _ _
  have KX : Hid (Blk (w.alloc (.cells #[.int .u64 S, .int .i64 room, .int .i64 votes, .slice A n cap, .int .u64 LS, .int .i64 LM, .slice LA R lcap] 28)) w.heap.size 28 #[.int .u64 S, .int .i64 room, .int .i64 votes, .slice A n cap, .int .u64 LS, .int .i64 LM, .slice LA R lcap]) := Blk.new _ _ _
  clear h3 h4 hE hc hn hi hz0 hz1 hz2
  go_enter Try.func13, Try.ntmps13
  go_wp2_with fail
  generalize w.alloc (.cells #[.int .u64 S, .int .i64 room, .int .i64 votes, .slice A n cap, .int .u64 LS, .int .i64 LM, .slice LA R lcap] 28) = X at BX KX ⊢
  refine (RC.out _ BX.out).mono ?_
  rintro e u1 ⟨rfl, b1⟩
  have B1 := hidE (bel_trans BX.out b1)
  have x3 : u1.cell? ⟨w.heap.size, 3, none⟩ = some (.slice A n cap) := (KX.out.since b1).cell 3
  clear b1 BX KX RC
  go_wp2_with fail
  clear x3
  go_loopg [5, 7, 9, 16, 23] n (fun gk lv s7 s9 i s23 wr => ∃ (k m : Nat) (A5 : Option Addr) (c5 : Nat), (gk = n - k ∧ k ≤ n ∧ m ≤ 20 * k ∧ GrowL 68 u1 wr (.slice A5 m c5) (itB most (bs.take k))) ∧ lv = .slice A5 m c5 ∧ i = .int .i64 (k : Int))
  case atStart => exact ⟨0, 0, none, 0, ⟨rfl, by omega, by omega, growL_start _ _⟩, rfl, rfl⟩
  case round =>
    obtain ⟨k, m, A5, c5, ⟨hgk, hk, hm, hG⟩, rfl, rfl⟩ := hrel
    have HK := hidE hgk
    have HG := hidE hG
    clear hgk hG
    by_cases hz : k < n
    · obtain rfl := H3.out (by rw [← HN.out]; omega)
      obtain ⟨y, hy⟩ : ∃ y, bs[k]? = some y := ⟨_, List.getElem?_eq_getElem (by rw [← HN.out]; exact hz)⟩
      have HY := hidE hy
      have es20 := HE.out k y hy
      obtain ⟨ev, q1, q2, A2, cp2, b2, o2, rfl, hc2, h5, h6⟩ := H4.out k y hy
      have H5 := hidE h5
      have H6 := hidE h6
      obtain ⟨me, hme⟩ : ∃ me, me = y.es.length := ⟨_, rfl⟩
      have HM := hidE hme
      obtain ⟨ag, hag⟩ : ∃ ag, ag = y.ag := ⟨_, rfl⟩
      rw [← hme] at es20 q1 hc2
      rw [← hag] at q2
      have q1 := keep_of_below (bel_trans B1.out HG.out.since) _ _ q1
      have q2 := keep_of_below (bel_trans B1.out HG.out.since) _ _ q2
      have bk : (k : Int) < (n : Int) := by omega
      have bk0 : (0 : Int) ≤ (k : Int) := by omega
      have HMM := hidE hm
      clear hy hme hag h5 h6 hm
      have GA : Hid (GrowL 68 u1 (wr.alloc (.cells #[.slice A2 me cp2, .int .i64 ag] 56)) (.slice A5 m c5) (itB most (bs.take k))) := HG.out.keep (bel_alloc _ _)
      go_wp2_with fail
      clear q1 q2
      generalize wr.alloc (.cells #[.slice A2 me cp2, .int .i64 ag] 56) = Y at GA ⊢
      go_loopg [5, 9, 23] me (fun gj lv s9 j wr2 => ∃ (t m2 : Nat) (A6 : Option Addr) (c6 : Nat), (gj = me - t ∧ t ≤ me ∧ m2 ≤ 20 * k + t ∧ GrowL 68 u1 wr2 (.slice A6 m2 c6) (itB most (bs.take k) ++ itE most (y.es.take t))) ∧ lv = .slice A6 m2 c6 ∧ j = .int .i64 (t : Int))
      case atStart => exact ⟨0, m, A5, c5, ⟨rfl, by omega, by have := HMM.out; omega, by simpa [itE] using GA.out⟩, rfl, rfl⟩
      case round =>
        clear GA
        obtain ⟨t, m2, A6, c6, ⟨hgj, ht, hm2, hG2⟩, rfl, rfl⟩ := hrel
        have HJ := hidE hgj
        have HG2 := hidE hG2
        clear hgj hG2
        by_cases tz : t < me
        · obtain rfl := H5.out (by rw [← HM.out]; omega)
          obtain ⟨x, hx⟩ : ∃ x, y.es[t]? = some x := ⟨_, List.getElem?_eq_getElem (by rw [← HM.out]; exact tz)⟩
          have NX := hidE (take_itE (most := most) hx)
          obtain ⟨c1, c2, c3⟩ := H6.out t x hx
          have bb := bel_trans B1.out HG2.out.since
          have c1 := keep_of_below bb _ _ c1
          have c2 := keep_of_below bb _ _ c2
          have c3 := keep_of_below bb _ _ c3
          obtain ⟨tk, d, f⟩ := x
          simp only at c1 c2 c3 NX
          have bt : (t : Int) < (me : Int) := by omega
          have bt0 : (0 : Int) ≤ (t : Int) := by omega
          have BA : Hid (Below wr.heap.size wr (wr.alloc (.cells #[.string tk, .int .i64 d, .bool f] 76))) := bel_alloc _ _
          have KA : Hid (Blk (wr.alloc (.cells #[.string tk, .int .i64 d, .bool f] 76)) wr.heap.size 76 #[.string tk, .int .i64 d, .bool f]) := Blk.new _ _ _
          have GL : Hid (m2 = (itB most (bs.take k) ++ itE most (y.es.take t)).length) := growL_len HG2.out
          clear hx bb
          go_upto_region 10 with fail
          have G3 := hidE (HG2.out.keep BA.out)
          clear BA c1 c2 c3 HG2
          generalize wr.alloc (.cells #[.string tk, .int .i64 d, .bool f] 76) = Q at KA G3 ⊢
          generalize wr.heap.size = g9 at KA ⊢
          have y0 : Q.cell? ⟨g9, 0, none⟩ = some (.string tk) := KA.out.cell 0
          have y1 : Q.cell? ⟨g9, 1, none⟩ = some (.int .i64 d) := KA.out.cell 1
          have y2 : Q.cell? ⟨g9, 2, none⟩ = some (.bool f) := KA.out.cell 2
          by_cases ge : d ≥ most
          · rw [if_pos ge] at NX
            go_wp2_with fail
            refine (eitem_any Q tk d f).mono ?_
            rintro e u3 ⟨rfl, b3⟩
            have G4 := hidE (G3.out.keep b3)
            have sz : Hid (u1.heap.size ≤ u3.heap.size) := G4.out.since.size
            have OW : Hid (u3.ownsRow u1.heap.size 68 2 (.slice A6 m2 c6) m2 (lCells (itB most (bs.take k) ++ itE most (y.es.take t)))) := by
              have := G4.out.own
              rw [← GL.out] at this
              exact this
            clear b3 y0 y1 y2 KA G3
            go_wp2_with (at_builtin; refine wpList_append_lies _ rfl _ _ _ rfl u1.heap.size 68 it (.agg #[.string ⟨#[]⟩, .int .i64 0]) 2 24 Try.underlying41 HT.out.1 HT.out.2.1 HT.out.2.2.1 HT.out.2.2.2 rfl (by omega) (.slice A6 m2 c6) m2 (lCells (itB most (bs.take k) ++ itE most (y.es.take t))) (by rfl) (OW.out.alloc _) ⟨u3.heap.size, 0, none⟩ 1 1 [.string tk, .int .i64 d] (by rfl) rfl (new_it u3 68 _ _) (it_cell _ _) (by omega) (by unfold maxLen; omega) (by omega) (by have := sz.out; simp; omega) _ rfl ?_; intro gq cap1 w1 hown1 hgrow hat hlt1)
            go_roundg (me - (t + 1))
            case measure => have := HJ.out; omega
            case rel =>
              refine ⟨t + 1, m2 + 1, _, _, ⟨rfl, by omega, by omega, ?_⟩, rfl, by go_num⟩
              rw [NX.out, ← List.append_assoc]
              have e := G4.out.step (x := ⟨tk, d⟩) (by rw [← GL.out]; exact hown1) hgrow
              rw [← GL.out] at e
              exact e
          · rw [if_neg ge, List.append_nil] at NX
            go_wp2_with fail
            go_roundg (me - (t + 1))
            case measure => have := HJ.out; omega
            case rel => exact ⟨t + 1, m2, A6, c6, ⟨rfl, by omega, by omega, by rw [NX.out]; exact G3.out⟩, rfl, by go_num⟩
        · have bt : ¬ (t : Int) < (me : Int) := by omega
          have te : Hid (y.es.take t = y.es) := hidE (List.take_of_length_le (by have := HM.out; omega))
          go_wp2_with fail
          go_roundg (n - (k + 1))
          case measure => have := HK.out; omega
          case rel => exact ⟨k + 1, m2, A6, c6, ⟨rfl, by omega, by omega, by rw [take_itB HY.out]; have := HG2.out; rw [te.out] at this; exact this⟩, rfl, by go_num⟩
    · have bk : ¬ (k : Int) < (n : Int) := by omega
      have te : Hid (bs.take k = bs) := hidE (List.take_of_length_le (by have := HN.out; omega))
      have GL : Hid (m = (itB most bs).length) := by
        have := growL_len HG.out
        rw [te.out] at this
        exact this
      have OW : Hid (wr.ownsRow u1.heap.size 68 2 (.slice A5 m c5) (itB most bs).length (lCells (itB most bs))) := by
        have := HG.out.own
        rw [te.out] at this
        exact this
      have CS := hidE (esortF wr u1.heap.size (.slice A5 m c5) (itB most bs) (listBs most [] bs) OW.out (by have := GL.out; omega) (listBs_noneA most bs [] List.Pairwise.nil) (by have := listBs_perm most bs []; rw [List.nil_append] at this; exact this.symm) HG.out.since.size)
      go_wp2_with fail
      refine CS.out.mono ?_
      rintro e u4 ⟨rfl, h4, b4⟩
      go_wp2_with fail
      go_ret
      exact ⟨_, rfl, h4.mono fun q _ d => by have := B1.out.size; show w.heap.size ≤ q; omega, (bel_trans B1.out HG.out.since).trans (b4.mono B1.out.size)⟩
end Go.Proofs.Ytihealembikkiaa
namespace Go.Proofs.Ytihealembikkiaa
open Go.RowKit Fm Bl Lt El Hv L2 L10 L14 Go.Deep Go.Shelf
set_option linter.unusedVariables false
set_option maxRecDepth 20000

theorem right_is {w : World} {x : Value} {F : Elk} (h : ElAt w x F) (uS : U F.S) (sm : SmallE F) (B : Bool) (hB : B = true ↔ RightE F) : Hid (∀ u, Below w.heap.size w u → Calls Try.prog 15 #[x] u fun e w' => e = .returned (.bool B) ∧ Below u.heap.size u w') :=
  hidE fun u b => (erightC_any u x F (h.keep (keep_of_below b)) uS sm).mono fun e w' q => by
    obtain ⟨B', e1, e2, e3⟩ := q
    have : B' = B := by rw [Bool.eq_iff_iff, e2, hB]
    rw [this] at e1
    exact ⟨e1, e3⟩
theorem el_parts {w : World} {x : Value} {F : Elk} (h : ElAt w x F) : ∃ A n cap LA lcap, n = F.bs.length ∧ x = .agg #[.int .u64 F.S, .int .i64 F.room, .int .i64 F.votes, .slice A n cap, .int .u64 F.LS, .int .i64 F.LM, .slice LA F.R lcap] ∧ BktsE w (.slice A n cap) F.bs ∧ RowsI w (.slice LA F.R lcap) F.R F.L F.Z := by
  obtain ⟨bv, rv, rfl, hB, hr⟩ := h
  obtain ⟨A, cap, _, _, rfl, _, _⟩ := id hB
  obtain ⟨LA, lcap, _, _, rfl, _⟩ := hr.read
  exact ⟨A, _, cap, LA, lcap, rfl, rfl, hB, hr⟩
theorem ctrE : CtrE where
  new_ok := fun w S n room R c votes uS h => enew_ok w S n room R c votes uS h
  new_bad := fun w S n room votes R c uS _ _ _ _ _ h => enew_bad w S n room votes R c uS h
  right := fun w x F h uS sm => erightC_any w x F h uS sm
  add_bad := fun w x F s h uS sm hs rt => by
    have RC := right_is h uS sm false ⟨fun z => (by cases z), fun z => absurd z rt⟩
    obtain ⟨A, n, cap, LA, lcap, _, rfl, _, _⟩ := el_parts h
    exact eaddC_bad0 w F.S F.room F.votes F.LS F.LM A LA n cap F.R lcap s RC
  add_full := fun w x S room votes bs R c Z s b h uS rt sh hs hb ha => by
    have sm := small_of rt sh
    have RC := right_is h uS sm true ⟨fun _ => rt, fun _ => rfl⟩
    have n256 : bs.length ≤ 256 := rt.2.2.2.2.2.1
    have rb : RightB room b := rt.2.2.2.2.2.2.2.2.2 _ b hb
    obtain ⟨A, n, cap, LA, lcap, hn, rfl, _, _⟩ := el_parts h
    have hn : n = bs.length := hn
    exact eaddC_full0 w S room votes (rowF S 1) 255 A LA n cap R lcap (placeN S s bs.length 0) bs (fun _ => c) Z b s RC (hidE h) hn (by rw [hn]; exact (List.getElem?_eq_some_iff.1 hb).1) (by omega) rfl uS hs hb (fun i y hy => by have := (sm.2.2 i y hy).1; omega) rb rt.1 rt.2.2.1 rt.2.2.2.1 ha
  add_ok := fun w x S room votes bs R c Z s b b' o D hD hx uS rt sh hs hb ha => by
    have h := hx.at
    have sm := small_of rt sh
    have RC := right_is h uS sm true ⟨fun _ => rt, fun _ => rfl⟩
    have n256 : bs.length ≤ 256 := rt.2.2.2.2.2.1
    have rb : RightB room b := rt.2.2.2.2.2.2.2.2.2 _ b hb
    have ok : OkP 255 R c Z := rt.2.2.2.2.2.2.1.ok
    obtain ⟨gk, gv, e1, e2, e3, e4, e5⟩ := gone_of ok rb (sh _ b hb) hs ha
    obtain ⟨A, n, cap, LA, lcap, hn, rfl, _, hr⟩ := el_parts h
    have hn : n = bs.length := hn
    have LC := hidE fun u (q : Below w.heap.size w u) => add_ok u (.agg #[.int .u64 (rowF S 1), .int .i64 255, .slice LA R lcap]) (rowF S 1) 255 R c Z gk gv ⟨_, rfl, hr.keep (keep_of_below q)⟩ ok (rowF_U S 1) (by omega) e3 e4
    refine (eaddC_ok0 w S room votes (rowF S 1) 255 A LA n cap R lcap (placeN S s bs.length 0) bs (fun _ => c) Z b s RC (hidE h) hn (by rw [hn]; exact (List.getElem?_eq_some_iff.1 hb).1) (by omega) rfl uS hs hb (fun i y hy => by have := (sm.2.2 i y hy).1; omega) rb rt.1 rt.2.2.1 rt.2.2.2.1 b' o ha gk gv c _ e1 e2 e3 e4 LC).mono ?_
    rintro e w' ⟨g, cn, LB, lcb, rfl, hh, bb⟩
    exact ⟨_, rfl, fun u q => by
      obtain ⟨k1, k2⟩ := hh u (q.mono fun p _ d => hD p d)
      exact ⟨_, _, rfl, k1, k2.congr (fun _ _ => rfl) e5⟩, bb⟩
  get_bad := fun w x F s h uS sm hs rt => egetC_bad w x F s h uS sm rt
  get_ok := fun w x S room votes bs R c Z s b lo hi ex fu h uS rt sh hs hb hg => egetC_ok w x S room votes bs R c Z s b lo hi ex fu h uS rt sh hs hb hg
  list_bad := fun w x F most h uS sm _ rt => by
    have RC := right_is h uS sm false ⟨fun z => (by cases z), fun z => absurd z rt⟩
    obtain ⟨A, n, cap, LA, lcap, _, rfl, _, _⟩ := el_parts h
    refine (elistC_bad0 w F.S F.room F.votes F.LS F.LM A LA n cap F.R lcap most RC).mono ?_
    rintro e w' ⟨rfl, bb⟩
    exact ⟨_, rfl, fun u _ => its_none u, bb⟩
  list_ok := fun w x F most h uS rt sh _ => by
    have r8 := rt.2.1
    have sm : SmallE F := by
      obtain ⟨h1, h2, h3, h4, h5, h6, h7, h8, h9, h10⟩ := rt
      have ok := h7.ok
      refine ⟨by omega, ⟨by have : F.R ≤ 7 := ok.2.2.2.1; omega, fun i hi => ?_⟩, fun i b hb => ⟨by have := (h10 i b hb).1; omega, fun j e he => sh i b hb j e he⟩⟩
      have e := (h7.2.2.2.2.2.2 i hi).1
      have : F.L 0 ≤ 256 := ok.2.2.2.2.2.1
      rw [e]
      omega
    have RC := right_is h uS sm true ⟨fun _ => rt, fun _ => rfl⟩
    obtain ⟨A, n, cap, LA, lcap, hn, rfl, hB, _⟩ := el_parts h
    exact elistC_ok0 w F.S F.room F.votes F.LS F.LM A LA n cap F.R lcap F.bs most RC hB hn (by have := sm.1; omega) fun i b hb => (sm.2.2 i b hb).1
end Go.Proofs.Ytihealembikkiaa
