
/-
  slices.SortFunc of items: what the library's shelf says of it, over this program; items sorted, keys that are the same among them (layer 15).
-/
import Derived.Test.YtihealembikkiaaHevStd
import Derived.Test.YtihealembikkiaaElOrder
import Derived.Shelf.SlSortCmp.NoneTotal
namespace Go.Proofs.Ytihealembikkiaa
open Go.RowKit Hv Go.Deep Go.Shelf L14
set_option linter.unusedVariables false
set_option maxRecDepth 20000

/-- slices.SortFunc is here as the library's shelf has it. -/
def rhoI : Go.Shelf.Ren := { f := fun n => if n = 6 then 34 else if n = 14 then 60 else if n = 15 then 61 else if n = 20 then 82 else if n = 21 then 83 else if n = 22 then 84 else if n = 23 then 85 else if n = 24 then 86 else if n = 25 then 87 else if n = 26 then 88 else if n = 27 then 89 else if n = 28 then 90 else if n = 29 then 91 else if n = 46 then 100 else if n = 47 then 101 else if n = 48 then 102 else if n = 49 then 103 else if n = 50 then 104 else 107, t := fun t => if t = 0 then 0 else if t = 3 then 3 else if t = 4 then 4 else if t = 5 then 5 else if t = 9 then 9 else if t = 22 then 41 else if t = 24 then 68 else if t = 25 then 89 else if t = 39 then 116 else if t = 45 then 131 else if t = 46 then 132 else if t = 50 then 85 else if t = 53 then 138 else if t = 55 then 22 else if t = 66 then 147 else if t = 70 then 109 else if t = 76 then 154 else 155, g := fun _ => 0 }
theorem laysI : SlLaysF0.n6 Try.prog rhoI := by
  constructor
  case f6 => exact ⟨"slices.SortFunc[[]rillmeter/heavy.Item,rillmeter/heavy.Item]", by decide, by kernel_rfl⟩
  case f14 => exact ⟨"slices.pdqsortCmpFunc[rillmeter/heavy.Item]", by decide, by kernel_rfl⟩
  case f20 => exact ⟨"slices.insertionSortCmpFunc[rillmeter/heavy.Item]", by decide, by kernel_rfl⟩
  case f21 => exact ⟨"slices.heapSortCmpFunc[rillmeter/heavy.Item]", by decide, by kernel_rfl⟩
  case f22 => exact ⟨"slices.breakPatternsCmpFunc[rillmeter/heavy.Item]", by decide, by kernel_rfl⟩
  case f23 => exact ⟨"slices.choosePivotCmpFunc[rillmeter/heavy.Item]", by decide, by kernel_rfl⟩
  case f24 => exact ⟨"slices.reverseRangeCmpFunc[rillmeter/heavy.Item]", by decide, by kernel_rfl⟩
  case f25 => exact ⟨"slices.partialInsertionSortCmpFunc[rillmeter/heavy.Item]", by decide, by kernel_rfl⟩
  case f26 => exact ⟨"slices.partitionEqualCmpFunc[rillmeter/heavy.Item]", by decide, by kernel_rfl⟩
  case f27 => exact ⟨"slices.partitionCmpFunc[rillmeter/heavy.Item]", by decide, by kernel_rfl⟩
  case f46 => exact ⟨"slices.siftDownCmpFunc[rillmeter/heavy.Item]", by decide, by kernel_rfl⟩
  case f49 => exact ⟨"slices.medianAdjacentCmpFunc[rillmeter/heavy.Item]", by decide, by kernel_rfl⟩
  case f50 => exact ⟨"slices.medianCmpFunc[rillmeter/heavy.Item]", by decide, by kernel_rfl⟩
  case f57 => exact ⟨"slices.order2CmpFunc[rillmeter/heavy.Item]", by decide, by kernel_rfl⟩
  all_goals first | kernel_rfl | (intro w; kernel_rfl)
def encI (x : Itm) : List Value := [.string x.k, .int .i64 x.c]
theorem ltOf_std (x y : Itm) : Go.Proofs.ltOf stdF x y = aheadB x y := by
  unfold Go.Proofs.ltOf
  rw [Bool.eq_iff_iff, decide_eq_true_iff, stdF_neg, aheadB_iff]
theorem swoI : Go.Sort.SWO (Go.Proofs.ltOf stdF) where
  irrefl x := by
    rw [ltOf_std]
    cases e : aheadB x x with
    | false => rfl
    | true => exact absurd ((aheadB_iff _ _).1 e) (ahead_irrefl x)
  trans x y z h1 h2 := by
    rw [ltOf_std] at *
    exact (aheadB_iff _ _).2 (ahead_trans ((aheadB_iff _ _).1 h1) ((aheadB_iff _ _).1 h2))
  ntrans x y z h1 h2 := by
    rw [ltOf_std] at *
    have n1 : ¬ Ahead x y := fun h => by rw [(aheadB_iff _ _).2 h] at h1; cases h1
    have n2 : ¬ Ahead y z := fun h => by rw [(aheadB_iff _ _).2 h] at h2; cases h2
    cases e : aheadB x z with
    | false => rfl
    | true =>
      have a := (aheadB_iff _ _).1 e
      by_cases h : Ahead y x
      · exact absurd (ahead_trans h a) n2
      · rw [itm_one n1 h] at a
        exact absurd a n2
theorem cmpI_lays [Inhabited Itm] (blk off size : Nat) (w : World) : Go.Proofs.CmpLays Try.prog 35 #[] encI 2 stdF blk off size w := fun m os dk hdk x y =>
  (standing_any _ x.k x.c y.k y.c).mono fun e w' h => ⟨h.1, h.2.ex⟩
theorem holdsI [Inhabited Itm] {w : World} {Bd g cap : Nat} {l : List Itm} (h : w.ownsRow Bd 68 2 (.slice (some ⟨g, 0, none⟩) l.length cap) l.length (lCells l)) : Go.Sort.HoldsK encI 2 w g 0 l.toArray := by
  intro j hj
  have hj2 : j < l.length * 2 := by simpa using hj
  rw [Go.Sort.get_flatK _ _ _ _ (by simpa using hj2), Nat.zero_add]
  refine ⟨?_, World.ownsRow.frozenAt h j⟩
  rw [World.ownsRow.cellAt h j (by omega)]
  obtain ⟨x, hx⟩ : ∃ x, l[j / 2]? = some x := ⟨_, List.getElem?_eq_getElem (by omega)⟩
  obtain ⟨g1, g2⟩ := lCells_get l _ _ hx
  have e : l.toArray[j / 2]! = x := by
    rw [getElem!_pos l.toArray (j / 2) (by simp; omega)]
    have := (List.getElem?_eq_some_iff.1 hx).2
    simpa using this
  rw [e]
  rcases Nat.mod_two_eq_zero_or_one j with m | m
  · rw [show j / 2 * 2 = j by omega] at g1
    rw [g1, m]; rfl
  · rw [show j / 2 * 2 + 1 = j by omega] at g2
    rw [g2, m]; rfl
theorem esorted_list [Inhabited Itm] {l m : List Itm} {d : Array Itm} (hp : Go.Sort.PermIn 0 l.toArray.size l.toArray d) (hs : Go.Sort.SortedIn (Go.Proofs.ltOf stdF) 0 l.toArray.size d) (hm : NoneA m) (pm : l.Perm m) : d.toList = m ∧ d.size = l.length := by
  obtain ⟨h1, _, h3⟩ := hp
  have z : d.size = l.length := by simpa using h1
  have h4 : d.toList.Perm l := by
    have a1 : d.extract 0 l.toArray.size = d := by apply Array.extract_eq_self_of_le; omega
    have a2 : l.toArray.extract 0 l.toArray.size = l.toArray := by apply Array.extract_eq_self_of_le; omega
    rw [a1, a2] at h3
    simpa using h3
  refine ⟨noneA_unique (h4.trans pm) ?_ hm, z⟩
  unfold NoneA
  rw [List.pairwise_iff_getElem]
  intro i j hi hj ij
  have hi' : i < d.size := by simpa using hi
  have hj' : j < d.size := by simpa using hj
  have s1 := hs i j (Nat.zero_le _) ij (by simp; omega)
  rw [ltOf_std, getElem!_pos d j hj', getElem!_pos d i hi'] at s1
  have s2 : ¬ Ahead d[j] d[i] := fun h => by rw [(aheadB_iff _ _).2 h] at s1; cases s1
  simpa using s2
theorem grownBy_sortedK [Inhabited Itm] {w : World} {g n : Nat} {os : Array Obj} (d : Array Itm) : w.grownBy (Go.Proofs.sortWorldK encI 2 w g 0 n d os) (some g) := by
  refine ⟨rfl, rfl, rfl, by simp [Go.Proofs.sortWorldK, Go.Sort.putRowK, Go.Sort.ahead], fun k hk hne => ?_⟩
  unfold Go.Proofs.sortWorldK Go.Sort.putRowK
  rw [Go.Sort.heap_grow_old _ _ (by simpa [Go.Sort.ahead] using hk)]
  have : g ≠ k := fun e => hne (by rw [e])
  simp [Go.Sort.putRow, Go.Sort.mapBlock, Go.Sort.ahead, Array.getElem?_modify, this]
/-- Items in a row that is known, sorted. -/
theorem esortI_any (w : World) (Bd g cap : Nat) (l m : List Itm) (h : w.ownsRow Bd 68 2 (.slice (some ⟨g, 0, none⟩) l.length cap) l.length (lCells l)) (hc : l.length ≤ cap) (hn : l.length ≤ 100000) (hm : NoneA m) (pm : l.Perm m) (hg : Bd ≤ g) (hl : g < w.heap.size) (hb : Bd ≤ w.heap.size) :
    Calls Try.prog 34 #[.slice (some ⟨g, 0, none⟩) l.length cap, .func (.func 35) #[] #[]] w fun e w' => e = .returned (.tuple #[]) ∧ Held (fun q => q = g) (fun u => ItsL u (.slice (some ⟨g, 0, none⟩) l.length cap) m) w' ∧ Below Bd w w' := by
  haveI : Inhabited Itm := ⟨⟨⟨#[]⟩, 0⟩⟩
  have eg : ∀ args w, (callFunc 35 args).run Try.prog w = .ok (.enter 35 args) w := enters_of Try.func35 (by kernel_rfl) rfl
  have hcon := Go.Proofs.AnyQ.slices_SortFunc laysI 2 (fun w => by kernel_rfl) (fun w => by kernel_rfl) encI (fun _ => rfl) (fun x v hv => by simp [encI] at hv; rcases hv with rfl | rfl <;> rfl) stdF swoI 35 #[] g 0 cap l.toArray w eg (cmpI_lays g 0 _ w) (holdsI h) hl (by simp; omega)
  have ez : l.toArray.size = l.length := by simp
  rw [ez] at hcon
  refine Go.Calls.mono hcon ?_
  rintro e w' ⟨rfl, d', n, os, hp, hs, rfl⟩
  rw [← ez] at hp hs
  obtain ⟨ed, zd⟩ := esorted_list hp hs hm pm
  have hH2 := Go.Proofs.holdsK_sortWorldK_c encI 2 w g 0 l.toArray d' n os (holdsI h) hl (by rw [zd]; simp)
  refine ⟨rfl, fun u hu => ?_, ?_⟩
  · have bl : g < (Go.Proofs.sortWorldK encI 2 w g 0 n d' os).heap.size := by have := (grownBy_sortedK (w := w) (g := g) (n := n) (os := os) d').size; omega
    have eb := hu.2 g rfl bl
    have ml : m.length = l.length := by rw [← ed]; simpa using zd
    refine ⟨some ⟨g, 0, none⟩, cap, g, 0, by rw [ml], by omega, fun _ => rfl, fun i x hi => ?_⟩
    have il : i < d'.size := by rw [zd, ← ml]; exact (List.getElem?_eq_some_iff.1 hi).1
    have ex : d'[i]! = x := by
      rw [getElem!_pos d' i il]
      rw [← ed] at hi
      have := (List.getElem?_eq_some_iff.1 hi).2
      simpa using this
    have c0 := (Go.Sort.HoldsK.cell hH2 (c := 0) il (by omega)).1
    have c1 := (Go.Sort.HoldsK.cell hH2 (c := 1) il (by omega)).1
    rw [ex] at c0 c1
    rw [World.cell?_of_block (w' := u) (a := ⟨g, 0 + i * 2, none⟩) eb, World.cell?_of_block (w' := u) (a := ⟨g, 0 + i * 2 + 1, none⟩) eb]
    exact ⟨c0, c1⟩
  · exact (Below.refl Bd w).grown (grownBy_sortedK d') hb (fun q hq => by cases hq; exact hg)
end Go.Proofs.Ytihealembikkiaa
