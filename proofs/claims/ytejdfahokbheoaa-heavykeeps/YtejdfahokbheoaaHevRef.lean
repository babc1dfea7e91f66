
/-
  The heap of the document (layer 14): what its functions answer, over items as lists.
-/
import Derived.Test.YtejdfahokbheoaaHevMem
import Derived.Test.YtejdfahokbheoaaHeldKit
import Derived.BigQuiet
import Derived.Lib.Strings
namespace Go.Proofs.Ytejdfahokbheoaa
open Go.RowKit Hv Go.Deep
set_option linter.unusedVariables false

def itv (x : Itm) : Value := .agg #[.string x.k, .int .i64 x.c]
/-- A bool that tells whether something holds; the world stands. -/
def TellsW (w : World) (P : Prop) (e : Ending) (w' : World) : Prop := ∃ B : Bool, e = .returned (.bool B) ∧ (B = true ↔ P) ∧ w' = w
theorem less_eq : ∀ (x y : List UInt8), Op.bytesLess x y = decide (x < y)
  | [], [] => by simp [Op.bytesLess]
  | _ :: _, [] => by simp [Op.bytesLess]
  | [], _ :: _ => by simp [Op.bytesLess]
  | a :: x, b :: y => by
    rw [Op.bytesLess, less_eq x y]
    simp only [List.cons_lt_cons_iff]
    by_cases h1 : a < b <;> by_cases h2 : a = b <;> by_cases h3 : x < y <;> simp [h1, h2, h3]
set_option maxHeartbeats 800000 in
theorem hahead_any (w : World) (s : ByteArray) (c : Int) (t : ByteArray) (d : Int) : Calls Try.prog 33 #[.agg #[.string s, .int .i64 c], .agg #[.string t, .int .i64 d]] w fun e w' => e = .returned (.bool (aheadB ⟨s, c⟩ ⟨t, d⟩)) ∧ Below w.heap.size w w' := by
  have BX : Hid (Below w.heap.size w ((w.alloc (.cells #[.string s, .int .i64 c] 39)).alloc (.cells #[.string t, .int .i64 d] 39))) := (bel_alloc _ _).alloc (by simp) _
  by_cases h1 : c > d
  · have E : Hid (aheadB ⟨s, c⟩ ⟨t, d⟩ = true) := decide_eq_true (Or.inl h1)
    go_enter Try.func33, Try.ntmps33
    go_wp2_with fail
    go_ret
    exact ⟨by rw [E.out]; rfl, BX.out⟩
  by_cases h2 : c = d
  rotate_left
  · have E : Hid (aheadB ⟨s, c⟩ ⟨t, d⟩ = false) := decide_eq_false (fun h => h.elim h1 fun h => h2 h.1)
    have q : (c == d) = false := by simpa using h2
    clear h2
    go_enter Try.func33, Try.ntmps33
    go_wp2_with fail
    go_ret
    exact ⟨by rw [E.out]; rfl, BX.out⟩
  subst h2
  obtain ⟨L, hL⟩ : ∃ L, L = Op.bytesLess s.toList t.toList := ⟨_, rfl⟩
  have E : Hid (aheadB ⟨s, c⟩ ⟨t, c⟩ = L) := by
    show decide _ = L
    rw [hL, less_eq, Lib.toList_data, Lib.toList_data]
    simp
  have hL' := hL.symm
  clear hL
  go_enter Try.func33, Try.ntmps33
  go_wp2_with fail
  go_ret
  exact ⟨by rw [E.out]; first | rfl | simp, BX.out⟩
theorem infoRI0 : (Try.prog.info? 39).map (fun i => (i.zero, i.size, i.bytes)) = some (some (.agg #[.string ⟨#[]⟩, .int .i64 0]), 2, 24) := by kernel_rfl
theorem infoRI : ∃ i, Try.prog.info? 39 = some i ∧ i.zero = some (.agg #[.string ⟨#[]⟩, .int .i64 0]) ∧ i.size = 2 ∧ i.bytes = 24 := by
  obtain ⟨i, hi, hzz⟩ := Option.map_eq_some_iff.1 infoRI0
  simp only [Prod.mk.injEq] at hzz
  exact ⟨i, hi, hzz⟩
theorem str_eq (a b : ByteArray) : (a.toList == b.toList) = decide (a = b) := by
  rw [Lib.toList_data, Lib.toList_data]
  by_cases h : a = b
  · subst h; simp
  · rw [decide_eq_false h]
    simp only [beq_eq_false_iff_ne]
    exact fun e => h (key_ext e)
/-- Items that a call has made: they stand wherever what is new stands. -/
def NewL (w w' : World) (v : Value) (l : List Itm) : Prop := Held (fun q => w.heap.size ≤ q) (fun u => ItsL u v l) w'
theorem NewL.its {w w' : World} {v : Value} {l : List Itm} (h : NewL w w' v l) : ItsL w' v l := Held.at h
theorem GrowL.new {t : TypeId} {w0 w wr : World} {v : Value} {l : List Itm} (h : GrowL t w wr v l) (z : w0.heap.size ≤ w.heap.size) : NewL w0 wr v l := fun u e =>
  owns_its (owns_of h.own fun g hg => e.2 g (by have := (h.own.lt g hg).1; show _ ≤ g; omega) (h.own.lt g hg).2)
/-- Items told: what the call made. -/
def ToldL (w : World) (l : List Itm) (e : Ending) (w' : World) : Prop := ∃ v, e = .returned v ∧ NewL w w' v l ∧ Below w.heap.size w w'
set_option maxHeartbeats 1600000 in
theorem hget_any (w : World) (v : Value) (l : List Itm) (s : ByteArray) (h : ItsL w v l) (hl : l.length ≤ 100000) :
    Calls Try.prog 20 #[v, .string s] w fun e w' => e = .returned (.tuple #[.int .i64 ((getL l s).getD 0), .bool (getL l s).isSome]) ∧ w' = w := by
  obtain ⟨A, cap, b, o, rfl, hc, h3, h4⟩ := h
  have H3 : Hid (0 < l.length → A = some ⟨b, o, none⟩) := h3
  have H4 : Hid (∀ i x, l[i]? = some x → w.cell? ⟨b, o + i * 2, none⟩ = some (.string x.k) ∧ w.cell? ⟨b, o + i * 2 + 1, none⟩ = some (.int .i64 x.c)) := h4
  obtain ⟨n, hn⟩ : ∃ n, n = l.length := ⟨_, rfl⟩
  have HN : Hid (n = l.length) := hn
  rw [← hn] at hc hl ⊢
  clear h3 h4 hn
  go_enter Try.func20, Try.ntmps20
  go_wp2_with fail
  go_loop [6] (fun i => ∃ k : Nat, (k ≤ n ∧ ∀ j x, j < k → l[j]? = some x → x.k ≠ s) ∧ i = .int .i64 (k : Int)) (fun i => n - (intOf i).toNat)
  case atStart => exact ⟨0, ⟨by omega, fun j x hj => by omega⟩, rfl⟩
  case round =>
    obtain ⟨k, hk, rfl⟩ := hrel
    have HK : Hid (∀ j x, j < k → l[j]? = some x → x.k ≠ s) := hk.2
    have hkn := hk.1
    clear hk
    by_cases hz : k < n
    · obtain rfl := H3.out (by rw [← HN.out]; omega)
      obtain ⟨y, hy⟩ : ∃ y, l[k]? = some y := ⟨_, List.getElem?_eq_getElem (by rw [← HN.out]; exact hz)⟩
      obtain ⟨c1, c2⟩ := H4.out k y hy
      obtain ⟨t, d⟩ := y
      simp only at c1 c2
      have HY : Hid (l[k]? = some ⟨t, d⟩) := hy
      have bk : (k : Int) < (n : Int) := by omega
      have bk0 : (0 : Int) ≤ (k : Int) := by omega
      clear hy
      by_cases e : t = s
      · have q : (t.toList == s.toList) = true := by rw [str_eq, decide_eq_true e]
        have HE : Hid (t = s) := e
        clear e
        go_wp2_with fail
        go_returns
        have g : getL l s = some d := by
          unfold getL
          have : l.find? (fun y => decide (y.k = s)) = some ⟨t, d⟩ := by
            rw [List.find?_eq_some_iff_getElem]
            obtain ⟨hlt, he⟩ := List.getElem?_eq_some_iff.1 HY.out
            refine ⟨by simpa using HE.out, k, hlt, he, fun j hj => ?_⟩
            simpa using HK.out j _ hj (List.getElem?_eq_getElem (by omega))
          rw [this]
          rfl
        rw [g]
        exact ⟨rfl, rfl⟩
      · have q : (t.toList == s.toList) = false := by rw [str_eq, decide_eq_false e]
        have HE : Hid (t ≠ s) := e
        clear e
        go_wp2_with fail
        go_round
        case rel =>
          refine ⟨k + 1, ⟨by omega, fun j x hj hx => ?_⟩, by go_num⟩
          by_cases ej : j = k
          · subst ej
            have := HY.out.symm.trans hx
            cases this
            exact HE.out
          · exact HK.out j x (by omega) hx
        case measure => simp [intOf]; omega
    · have bk : ¬ (k : Int) < (n : Int) := by omega
      go_wp2_with fail
      go_returns
      have g : getL l s = none := getL_none fun y m => by
        obtain ⟨j, hj, e⟩ := List.mem_iff_getElem.1 m
        exact HK.out j y (by have := HN.out; omega) (by rw [List.getElem?_eq_getElem hj, e])
      rw [g]
      exact ⟨rfl, rfl⟩
end Go.Proofs.Ytejdfahokbheoaa
