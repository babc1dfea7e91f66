
/-
  rise and sink of layer 14 (heavy): one item that lies wrongly goes up and down; Last.
-/
import Derived.Test.YtejdfahokbheoaaHevPut
import Derived.Test.YtejdfahokbheoaaHevCtr
import Derived.WalkKit
namespace Go.Proofs.Ytejdfahokbheoaa
open Go.RowKit Hv Go.Deep
set_option linter.unusedVariables false
set_option linter.unusedSimpArgs false

/-- A heap in memory that stands for a list. -/
structure HevL (w : World) (Bd p g b room n : Nat) (a : Nat → Itm) (F : ByteArray → Option Int) (m : List Itm) : Prop where
  at' : HevAt w Bd p g b room n a F
  pl : PlF n a F
  holds : HoldsL n a m
  keys : ∀ i, i < n → (a i).k.size ≤ maxLen
theorem HevL.grn {w w' : World} {Bd p g b room n : Nat} {a : Nat → Itm} {F : ByteArray → Option Int} {m : List Itm} (h : HevL w Bd p g b room n a F m) (s : Grn w w') : HevL w' Bd p g b room n a F m := ⟨h.at'.grn s, h.pl, h.holds, h.keys⟩
theorem swp_keys {n : Nat} {a : Nat → Itm} (h : ∀ i, i < n → (a i).k.size ≤ maxLen) {i j : Nat} (hi : i < n) (hj : j < n) : ∀ k, k < n → (swp a i j k).k.size ≤ maxLen := fun k hk => by rw [swp_idx]; exact h _ (trd_lt hi hj hk)
/-- Of two that are not one, one stands ahead. -/
theorem Hv.HoldsL.order {n : Nat} {a : Nat → Itm} {m : List Itm} (h : HoldsL n a m) {i j : Nat} (hi : i < n) (hj : j < n) (ne : i ≠ j) (k : ¬ Ahead (a i) (a j)) : Ahead (a j) (a i) := (ahead_total (fun e => ne (h.inj i j hi hj e))).resolve_left k
theorem swp_comm (a : Nat → Itm) (i j : Nat) : swp a i j = swp a j i := by
  funext k
  unfold swp
  by_cases e : k = i <;> by_cases f : k = j
  · subst e; subst f; rfl
  · rw [if_pos e, if_neg f, if_pos e]
  · rw [if_neg e, if_pos f, if_pos f]
  · rw [if_neg e, if_neg f, if_neg f, if_neg e]
/-- What rise keeps: nothing is done yet, or the way up from one alone is wrong. -/
def RiseB (n : Nat) (a : Nat → Itm) (i k : Nat) : Prop := (k = i ∧ HeapB n a i) ∨ HeapU n a k
theorem RiseB.step {n : Nat} {a : Nat → Itm} {i k : Nat} (h : RiseB n a i k) (k0 : 0 < k) (kn : k < n) (c : Ahead (a (par k)) (a k)) : RiseB n (swp a k (par k)) i (par k) := by
  rw [swp_comm]
  refine Or.inr (heapU_step ?_ k0 kn c)
  rcases h with ⟨rfl, h⟩ | h
  · refine h.u fun i h0 hn e => ?_
    exact ahead_trans (h.2 i h0 hn e k0) c
  · exact h
theorem RiseB.done {n : Nat} {a : Nat → Itm} {i k : Nat} (h : RiseB n a i k) (c : 0 < k → k < n → Ahead (a k) (a (par k))) : HeapD n a i := by
  rcases h with ⟨rfl, h⟩ | h
  · exact h.d c
  · have f := heapU_end h c
    exact ⟨fun j h0 hn _ => f j h0 hn, (f.u i).2⟩
/-- A heap whose ways down from one alone may be wrong. -/
def Down (w : World) (Bd p g b room n : Nat) (m : List Itm) (i : Nat) : Prop := ∃ a F, HevL w Bd p g b room n a F m ∧ HeapD n a i
set_option maxHeartbeats 1600000 in
theorem rise_any (w : World) (Bd p g b room n : Nat) (a : Nat → Itm) (F : ByteArray → Option Int) (m : List Itm) (h : HevL w Bd p g b room n a F m) (hbd : Bd ≤ w.heap.size) (i : Nat) (hi : i < n) (hb : HeapB n a i) :
    Calls Try.prog 22 #[.pointer (some ⟨p, 0, none⟩), .int .i64 (i : Int)] w fun e w' => e = .returned (.tuple #[]) ∧ Down w' Bd p g b room n m i ∧ Below Bd w w' ∧ Oth p g b w w' := by
  have nr := h.at'.nr
  have r64 := h.at'.r64
  have HL := hid h
  have RB : Hid (RiseB n a i i) := Or.inl ⟨rfl, hb⟩
  clear h hb
  go_enter Try.func22, Try.ntmps22
  go_wp2_with fail
  go_loopg [1] i (fun gk v wr => ∃ k : Nat, (gk = k ∧ k < n ∧ ∃ a' F', HevL wr Bd p g b room n a' F' m ∧ RiseB n a' i k ∧ Below Bd w wr ∧ Oth p g b w wr) ∧ v = .int .i64 (k : Int))
  case atStart => exact ⟨i, ⟨rfl, hi, a, F, HL.out, RB.out, Below.refl _ _, Oth.refl _ _ _ _⟩, rfl⟩
  case round =>
    clear HL RB
    obtain ⟨k, ⟨hg, hk, a', F', hL, hB, hE, hO⟩, rfl⟩ := hrel
    have HL := hid hL
    have RB := hid hB
    have BE := hid hE
    have OT := hid hO
    have HG := hid hg
    clear hL hB hE hO hg
    by_cases k0 : 0 < k
    · have kz : (0 : Int) < (k : Int) := by omega
      have hp : par k < n := by unfold par; omega
      have AB : Hid (∀ u, Calls Try.prog 28 #[.int .i64 (k : Int)] u fun e w' => e = .returned (.int .i64 ((par k : Nat) : Int)) ∧ w' = u) := fun u => above_any u k (by omega) k0
      have BH : Hid (Calls Try.prog 27 #[.pointer (some ⟨p, 0, none⟩), .int .i64 (k : Int), .int .i64 ((par k : Nat) : Int)] wr fun e w' => e = .returned (.bool (aheadB (a' (par k)) (a' k))) ∧ Grn wr w') := behind_any wr Bd p g b room n a' F' HL.out.at' k (par k) (by omega) (by omega)
      obtain ⟨B, hBq⟩ : ∃ B, B = aheadB (a' (par k)) (a' k) := ⟨_, rfl⟩
      rw [← hBq] at BH
      have HB := hid hBq
      obtain ⟨q, hq⟩ : ∃ q, q = par k := ⟨_, rfl⟩
      have HQ := hid hq
      rw [← hq] at AB BH hp
      clear hBq hq
      cases B with
      | true =>
        go_wp2_with fail
        refine (AB.out _).mono ?_
        rintro e u1 ⟨rfl, rfl⟩
        go_wp2_with fail
        refine BH.out.mono ?_
        rintro e u2 ⟨rfl, g2⟩
        have HL2 : Hid (HevL u2 Bd p g b room n a' F' m) := HL.out.grn g2
        have BE2 : Hid (Below Bd w u2) := BE.out.trans (g2.below.mono (by have := BE.out.size; omega))
        have OT2 : Hid (Oth p g b w u2) := OT.out.trans (Oth.since g2.below)
        clear g2 HL BE OT
        go_wp2_with fail
        refine (AB.out _).mono ?_
        rintro e u3 ⟨rfl, rfl⟩
        go_wp2_with fail
        refine (swap_any u3 Bd p g b room n a' F' HL2.out.at' (by have := BE2.out.size; omega) HL2.out.pl HL2.out.keys k q hk hp).mono ?_
        rintro e u4 ⟨rfl, h4, b4, o4⟩
        have HL4 : Hid (HevL u4 Bd p g b room n (swp a' k q) (setF (setF F' (a' q).k k) (a' k).k q) m) := ⟨h4, HL2.out.pl.swap hk hp HL2.out.holds.inj, HL2.out.holds.swap hk hp, swp_keys HL2.out.keys hk hp⟩
        have BE4 : Hid (Below Bd w u4) := BE2.out.trans b4
        have OT4 : Hid (Oth p g b w u4) := OT2.out.trans o4
        have RB4 : Hid (RiseB n (swp a' k q) i q) := by
          have c := (aheadB_iff _ _).1 HB.out.symm
          have := RB.out.step k0 hk c
          rw [← HQ.out] at this
          exact this
        clear h4 b4 o4 HL2 BE2 OT2 RB
        go_wp2_with fail
        refine (AB.out _).mono ?_
        rintro e u5 ⟨rfl, rfl⟩
        go_wp2_with fail
        go_roundg q
        case rel => exact ⟨q, ⟨rfl, hp, _, _, HL4.out, RB4.out, BE4.out, OT4.out⟩, rfl⟩
        case measure => rw [HG.out, HQ.out]; unfold par; omega
      | false =>
        go_wp2_with fail
        refine (AB.out _).mono ?_
        rintro e u1 ⟨rfl, rfl⟩
        go_wp2_with fail
        refine BH.out.mono ?_
        rintro e u2 ⟨rfl, g2⟩
        have HL2 : Hid (HevL u2 Bd p g b room n a' F' m) := HL.out.grn g2
        have BE2 : Hid (Below Bd w u2) := BE.out.trans (g2.below.mono (by have := BE.out.size; omega))
        have OT2 : Hid (Oth p g b w u2) := OT.out.trans (Oth.since g2.below)
        clear g2 HL BE OT
        go_wp2_with fail
        go_returns
        refine ⟨rfl, ⟨_, _, HL2.out, RB.out.done fun _ _ => ?_⟩, BE2.out, OT2.out⟩
        have c : ¬ Ahead (a' (par k)) (a' k) := fun x => by
          have := (aheadB_iff _ _).2 x
          rw [← HB.out] at this
          cases this
        have hp2 := HQ.out ▸ hp
        exact HL2.out.holds.order hp2 hk (by unfold par; omega) c
    · have kz : ¬ (0 : Int) < (k : Int) := by omega
      go_wp2_with fail
      go_returns
      exact ⟨rfl, ⟨_, _, HL.out, RB.out.done fun x => absurd x k0⟩, BE.out, OT.out⟩
/-- What sink's search keeps: of one and of the first ones below it, the one that stands last. -/
def Worst (n : Nat) (a : Nat → Itm) (k j l : Nat) : Prop := l < n ∧ (l = k ∨ (0 < l ∧ par l = k ∧ l < j)) ∧ (l ≠ k → Ahead (a k) (a l)) ∧ ∀ x, 0 < x → x < n → par x = k → x < j → x ≠ l → Ahead (a x) (a l)
theorem worst_start {n : Nat} {a : Nat → Itm} {k : Nat} (h : k < n) : Worst n a k (2 * k + 1) k := ⟨h, Or.inl rfl, fun e => absurd rfl e, fun x x0 xn xp xj => by unfold par at xp; omega⟩
theorem Worst.turn {n : Nat} {a : Nat → Itm} {k j l : Nat} (h : Worst n a k j l) (jn : j < n) (j0 : 2 * k + 1 ≤ j) (j2 : j ≤ 2 * k + 2) (c : Ahead (a l) (a j)) : Worst n a k (j + 1) j := by
  obtain ⟨h1, h2, h3, h4⟩ := h
  refine ⟨jn, Or.inr ⟨by omega, by unfold par; omega, by omega⟩, fun _ => ?_, fun x x0 xn xp xj xl => ?_⟩
  · by_cases e : l = k
    · rw [← e]; exact c
    · exact ahead_trans (h3 e) c
  · by_cases e : x = l
    · rw [e]; exact c
    · exact ahead_trans (h4 x x0 xn xp (by omega) e) c
theorem Worst.stay {n : Nat} {a : Nat → Itm} {m : List Itm} {k j l : Nat} (h : Worst n a k j l) (hm : HoldsL n a m) (j0 : 2 * k + 1 ≤ j) (c : j < n → ¬ Ahead (a l) (a j)) : Worst n a k (j + 1) l := by
  obtain ⟨h1, h2, h3, h4⟩ := h
  refine ⟨h1, ?_, h3, fun x x0 xn xp xj xl => ?_⟩
  · rcases h2 with e | ⟨e1, e2, e3⟩
    · exact Or.inl e
    · exact Or.inr ⟨e1, e2, by omega⟩
  · by_cases e : x = j
    · subst e
      exact hm.order h1 xn (Ne.symm xl) (c xn)
    · exact h4 x x0 xn xp (by omega) xl
theorem Worst.all {n : Nat} {a : Nat → Itm} {k j l : Nat} (h : Worst n a k j l) (e : n ≤ j ∨ 2 * k + 3 ≤ j) : ∀ x, 0 < x → x < n → par x = k → x ≠ l → Ahead (a x) (a l) := fun x x0 xn xp xl => h.2.2.2 x x0 xn xp (by unfold par at xp; omega) xl
theorem Worst.end' {n : Nat} {a : Nat → Itm} {k j : Nat} (h : Worst n a k j k) (e : n ≤ j ∨ 2 * k + 3 ≤ j) (d : HeapD n a k) : HeapF n a := heapD_end d fun i i0 hn ip => h.all e i i0 hn ip (by omega)
theorem Worst.step {n : Nat} {a : Nat → Itm} {k j l : Nat} (h : Worst n a k j l) (e : n ≤ j ∨ 2 * k + 3 ≤ j) (ne : l ≠ k) (d : HeapD n a k) : HeapD n (swp a k l) l := by
  have h2 := h.2.1.resolve_left ne
  exact heapB_step d.b h2.1 h.1 h2.2.1 (fun x x0 xn xp xl => h.all e x x0 xn xp xl) (h.2.2.1 ne)
theorem Worst.up {n : Nat} {a : Nat → Itm} {k j l : Nat} (h : Worst n a k j l) (ne : l ≠ k) : k < l := by
  have h2 := h.2.1.resolve_left ne
  have := h2.2.1
  unfold par at this
  omega
/-- A heap that lies as it must. -/
def Whole (w : World) (Bd p g b room n : Nat) (m : List Itm) : Prop := ∃ a F, HevL w Bd p g b room n a F m ∧ HeapF n a
set_option maxHeartbeats 3200000 in
theorem sink_any (w : World) (Bd p g b room n : Nat) (m : List Itm) (i : Nat) (h : Down w Bd p g b room n m i) (hbd : Bd ≤ w.heap.size) (hi : i < n) :
    Calls Try.prog 23 #[.pointer (some ⟨p, 0, none⟩), .int .i64 (i : Int)] w fun e w' => e = .returned (.tuple #[]) ∧ Whole w' Bd p g b room n m ∧ Below Bd w w' ∧ Oth p g b w w' := by
  obtain ⟨a, F, hL, hD⟩ := h
  have nr := hL.at'.nr
  have r64 := hL.at'.r64
  have HL := hid hL
  have HD := hid hD
  clear hL hD
  go_enter Try.func23, Try.ntmps23
  go_wp2_with fail
  go_loopg [1] (n - i) (fun gk v wr => ∃ k : Nat, (gk = n - k ∧ k < n ∧ ∃ a' F', HevL wr Bd p g b room n a' F' m ∧ HeapD n a' k ∧ Below Bd w wr ∧ Oth p g b w wr) ∧ v = .int .i64 (k : Int))
  case atStart => exact ⟨i, ⟨rfl, hi, a, F, HL.out, HD.out, Below.refl _ _, Oth.refl _ _ _ _⟩, rfl⟩
  case round =>
    clear HL HD
    obtain ⟨k, ⟨hg, hk, a', F', hL, hD, hE, hO⟩, rfl⟩ := hrel
    have HL := hid hL
    have HD := hid hD
    have BE := hid hE
    have OT := hid hO
    have HG := hid hg
    clear hL hD hE hO hg
    have kz : (0 : Int) ≤ (k : Int) := by omega
    have kn : (k : Int) ≤ 64 := by omega
    go_wp2_with fail
    go_loopg [4, 5] 2 (fun gk l v wi => ∃ lk jk : Nat, (gk = 2 * k + 3 - jk ∧ 2 * k + 1 ≤ jk ∧ jk ≤ 2 * k + 3 ∧ Worst n a' k jk lk ∧ Grn wr wi) ∧ l = .int .i64 (lk : Int) ∧ v = .int .i64 (jk : Int))
    case atStart => exact ⟨k, 2 * k + 1, ⟨by omega, by omega, by omega, worst_start hk, Grn.refl _⟩, rfl, by go_num⟩
    case round =>
      obtain ⟨l, j, ⟨hg1, j1, j3, hW, hG⟩, rfl, rfl⟩ := hrel
      have WS := hid hW
      have GR := hid hG
      have G1 := hid hg1
      have ln := hW.1
      clear hW hG hg1
      have lz : (0 : Int) ≤ (l : Int) := by omega
      have jz : (0 : Int) ≤ (j : Int) := by omega
      by_cases jl : j ≤ 2 * k + 2
      · have jq : (j : Int) ≤ 2 * (k : Int) + 2 := by omega
        have LC : Hid (Calls Try.prog 15 #[.pointer (some ⟨p, 0, none⟩)] wr fun e w' => e = .returned (.int .i64 (n : Int)) ∧ Grn wr w') := len_any wr Bd p g b room n a' F' (HL.out.grn GR.out).at'
        by_cases jn : j < n
        · have jv : (j : Int) < (n : Int) := by omega
          obtain ⟨B, hBq⟩ : ∃ B, B = aheadB (a' l) (a' j) := ⟨_, rfl⟩
          have HB := hid hBq
          go_wp2_with fail
          refine LC.out.mono ?_
          rintro e u1 ⟨rfl, g1⟩
          have GR1 := hid (GR.out.trans g1)
          have BH : Hid (Calls Try.prog 27 #[.pointer (some ⟨p, 0, none⟩), .int .i64 (j : Int), .int .i64 (l : Int)] u1 fun e w' => e = .returned (.bool (aheadB (a' l) (a' j))) ∧ Grn u1 w') := behind_any u1 Bd p g b room n a' F' (HL.out.grn GR1.out).at' j l (by omega) (by omega)
          rw [← hBq] at BH
          clear g1 hBq
          go_wp2_with fail
          refine BH.out.mono ?_
          rintro e u2 ⟨rfl, g2⟩
          have GR2 := hid (GR1.out.trans g2)
          clear g2
          cases B with
          | true =>
            go_wp2_with fail
            go_roundg (2 * k + 3 - (j + 1))
            case rel => exact ⟨j, j + 1, ⟨rfl, by omega, by omega, WS.out.turn jn j1 jl ((aheadB_iff _ _).1 HB.out.symm), GR2.out⟩, rfl, by go_num⟩
            case measure => have := G1.out; omega
          | false =>
            go_wp2_with fail
            go_roundg (2 * k + 3 - (j + 1))
            case rel =>
              refine ⟨l, j + 1, ⟨rfl, by omega, by omega, WS.out.stay HL.out.holds j1 (fun _ x => ?_), GR2.out⟩, rfl, by go_num⟩
              have := (aheadB_iff _ _).2 x
              rw [← HB.out] at this
              cases this
            case measure => have := G1.out; omega
        · have jv : ¬ (j : Int) < (n : Int) := by omega
          have EX : Hid (n ≤ j ∨ 2 * k + 3 ≤ j) := Or.inl (by omega)
          go_wp2_with fail
          refine LC.out.mono ?_
          rintro e u1 ⟨rfl, g1⟩
          have HL1 : Hid (HevL u1 Bd p g b room n a' F' m) := HL.out.grn (GR.out.trans g1)
          have BE1 : Hid (Below Bd w u1) := BE.out.trans ((GR.out.trans g1).below.mono (by have := BE.out.size; omega))
          have OT1 : Hid (Oth p g b w u1) := OT.out.trans (Oth.since (GR.out.trans g1).below)
          clear g1 HL BE OT GR LC
          by_cases lk : l = k
          · subst lk
            have q1 : ((l : Int) == (l : Int)) = true := by simp
            go_wp2_with fail
            go_returns
            exact ⟨rfl, ⟨a', F', HL1.out, WS.out.end' EX.out HD.out⟩, BE1.out, OT1.out⟩
          · have q1 : ((l : Int) == (k : Int)) = false := by simp; omega
            have LK := hid lk
            clear lk
            go_wp2_with fail
            refine (swap_any u1 Bd p g b room n a' F' HL1.out.at' (by have := BE1.out.size; omega) HL1.out.pl HL1.out.keys k l hk ln).mono ?_
            rintro e u4 ⟨rfl, h4, b4, o4⟩
            have HL4 : Hid (HevL u4 Bd p g b room n (swp a' k l) (setF (setF F' (a' l).k k) (a' k).k l) m) := ⟨h4, HL1.out.pl.swap hk ln HL1.out.holds.inj, HL1.out.holds.swap hk ln, swp_keys HL1.out.keys hk ln⟩
            have BE4 : Hid (Below Bd w u4) := BE1.out.trans b4
            have OT4 : Hid (Oth p g b w u4) := OT1.out.trans o4
            have HD4 : Hid (HeapD n (swp a' k l) l) := WS.out.step EX.out LK.out HD.out
            have UP := hid (WS.out.up LK.out)
            clear h4 b4 o4 HL1 BE1 OT1 WS HD
            go_wp2_with fail
            go_roundg (n - l)
            case rel => exact ⟨l, ⟨rfl, ln, _, _, HL4.out, HD4.out, BE4.out, OT4.out⟩, rfl⟩
            case measure => have := UP.out; have := HG.out; omega
      · have jq : ¬ (j : Int) ≤ 2 * (k : Int) + 2 := by omega
        have EX : Hid (n ≤ j ∨ 2 * k + 3 ≤ j) := Or.inr (by omega)
        have HL1 : Hid (HevL wr Bd p g b room n a' F' m) := HL.out.grn GR.out
        have BE1 : Hid (Below Bd w wr) := BE.out.trans (GR.out.below.mono (by have := BE.out.size; omega))
        have OT1 : Hid (Oth p g b w wr) := OT.out.trans (Oth.since GR.out.below)
        clear HL BE OT GR
        by_cases lk : l = k
        · subst lk
          have q1 : ((l : Int) == (l : Int)) = true := by simp
          go_wp2_with fail
          go_returns
          exact ⟨rfl, ⟨a', F', HL1.out, WS.out.end' EX.out HD.out⟩, BE1.out, OT1.out⟩
        · have q1 : ((l : Int) == (k : Int)) = false := by simp; omega
          have LK := hid lk
          clear lk
          go_wp2_with fail
          refine (swap_any wr Bd p g b room n a' F' HL1.out.at' (by have := BE1.out.size; omega) HL1.out.pl HL1.out.keys k l hk ln).mono ?_
          rintro e u4 ⟨rfl, h4, b4, o4⟩
          have HL4 : Hid (HevL u4 Bd p g b room n (swp a' k l) (setF (setF F' (a' l).k k) (a' k).k l) m) := ⟨h4, HL1.out.pl.swap hk ln HL1.out.holds.inj, HL1.out.holds.swap hk ln, swp_keys HL1.out.keys hk ln⟩
          have BE4 : Hid (Below Bd w u4) := BE1.out.trans b4
          have OT4 : Hid (Oth p g b w u4) := OT1.out.trans o4
          have HD4 : Hid (HeapD n (swp a' k l) l) := WS.out.step EX.out LK.out HD.out
          have UP := hid (WS.out.up LK.out)
          clear h4 b4 o4 HL1 BE1 OT1 WS HD
          go_wp2_with fail
          go_roundg (n - l)
          case rel => exact ⟨l, ⟨rfl, ln, _, _, HL4.out, HD4.out, BE4.out, OT4.out⟩, rfl⟩
          case measure => have := UP.out; have := HG.out; omega
end Go.Proofs.Ytejdfahokbheoaa
