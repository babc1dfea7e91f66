
/-
  The contracts of layer 15 (elastic), off the code: all that the laws are walked over.
-/
import Derived.Test.YtihealembikkiaaElNewC
import Derived.Test.YtihealembikkiaaElAddC
import Derived.Test.YtihealembikkiaaElListC
namespace Go.Proofs.Ytihealembikkiaa
open Go.RowKit Fm Bl Lt El Hv L2 L10 L14 Go.Deep Go.Shelf
set_option linter.unusedVariables false
set_option maxRecDepth 20000

theorem right_is {w : World} {x : Value} {F : Elk} (h : ElAt w x F) (uS : U F.S) (sm : SmallE F) (B : Bool) (hB : B = true ↔ RightE F) : Hid (∀ u, Below w.heap.size w u → Calls Try.prog 15 #[x] u fun e w' => e = .returned (.bool B) ∧ Below u.heap.size u w') :=
  hidE fun u b => (erightC_any u x F (h.keep (keep_of_below b)) uS sm).mono fun e w' q => by
    obtain ⟨B', e1, e2, e3⟩ := q
    have : B' = B := by rw [Bool.eq_iff_iff, e2, hB]
    rw [this] at e1
    exact ⟨e1, e3⟩
theorem el_parts {w : World} {x : Value} {F : Elk} (h : ElAt w x F) : ∃ A n cap LA lcap, n = F.bs.length ∧ x = .agg #[.int .u64 F.S, .int .i64 F.room, .int .i64 F.votes, .slice A n cap, .int .u64 F.LS, .int .i64 F.LM, .slice LA F.R lcap] ∧ BktsE w (.slice A n cap) F.bs ∧ RowsI w (.slice LA F.R lcap) F.R F.L F.Z := by
  obtain ⟨bv, rv, rfl, hB, hr⟩ := h
  obtain ⟨A, cap, _, _, rfl, _, _⟩ := id hB
  obtain ⟨LA, lcap, _, _, rfl, _⟩ := hr.read
  exact ⟨A, _, cap, LA, lcap, rfl, rfl, hB, hr⟩
theorem ctrE : CtrE where
  new_ok := fun w S n room R c votes uS h => enew_ok w S n room R c votes uS h
  new_bad := fun w S n room votes R c uS _ _ _ _ _ h => enew_bad w S n room votes R c uS h
  right := fun w x F h uS sm => erightC_any w x F h uS sm
  add_bad := fun w x F s h uS sm hs rt => by
    have RC := right_is h uS sm false ⟨fun z => (by cases z), fun z => absurd z rt⟩
    obtain ⟨A, n, cap, LA, lcap, _, rfl, _, _⟩ := el_parts h
    exact eaddC_bad0 w F.S F.room F.votes F.LS F.LM A LA n cap F.R lcap s RC
  add_full := fun w x S room votes bs R c Z s b h uS rt sh hs hb ha => by
    have sm := small_of rt sh
    have RC := right_is h uS sm true ⟨fun _ => rt, fun _ => rfl⟩
    have n256 : bs.length ≤ 256 := rt.2.2.2.2.2.1
    have rb : RightB room b := rt.2.2.2.2.2.2.2.2.2 _ b hb
    obtain ⟨A, n, cap, LA, lcap, hn, rfl, _, _⟩ := el_parts h
    have hn : n = bs.length := hn
    exact eaddC_full0 w S room votes (rowF S 1) 255 A LA n cap R lcap (placeN S s bs.length 0) bs (fun _ => c) Z b s RC (hidE h) hn (by rw [hn]; exact (List.getElem?_eq_some_iff.1 hb).1) (by omega) rfl uS hs hb (fun i y hy => by have := (sm.2.2 i y hy).1; omega) rb rt.1 rt.2.2.1 rt.2.2.2.1 ha
  add_ok := fun w x S room votes bs R c Z s b b' o D hD hx uS rt sh hs hb ha => by
    have h := hx.at
    have sm := small_of rt sh
    have RC := right_is h uS sm true ⟨fun _ => rt, fun _ => rfl⟩
    have n256 : bs.length ≤ 256 := rt.2.2.2.2.2.1
    have rb : RightB room b := rt.2.2.2.2.2.2.2.2.2 _ b hb
    have ok : OkP 255 R c Z := rt.2.2.2.2.2.2.1.ok
    obtain ⟨gk, gv, e1, e2, e3, e4, e5⟩ := gone_of ok rb (sh _ b hb) hs ha
    obtain ⟨A, n, cap, LA, lcap, hn, rfl, _, hr⟩ := el_parts h
    have hn : n = bs.length := hn
    have LC := hidE fun u (q : Below w.heap.size w u) => add_ok u (.agg #[.int .u64 (rowF S 1), .int .i64 255, .slice LA R lcap]) (rowF S 1) 255 R c Z gk gv ⟨_, rfl, hr.keep (keep_of_below q)⟩ ok (rowF_U S 1) (by omega) e3 e4
    refine (eaddC_ok0 w S room votes (rowF S 1) 255 A LA n cap R lcap (placeN S s bs.length 0) bs (fun _ => c) Z b s RC (hidE h) hn (by rw [hn]; exact (List.getElem?_eq_some_iff.1 hb).1) (by omega) rfl uS hs hb (fun i y hy => by have := (sm.2.2 i y hy).1; omega) rb rt.1 rt.2.2.1 rt.2.2.2.1 b' o ha gk gv c _ e1 e2 e3 e4 LC).mono ?_
    rintro e w' ⟨g, cn, LB, lcb, rfl, hh, bb⟩
    exact ⟨_, rfl, fun u q => by
      obtain ⟨k1, k2⟩ := hh u (q.mono fun p _ d => hD p d)
      exact ⟨_, _, rfl, k1, k2.congr (fun _ _ => rfl) e5⟩, bb⟩
  get_bad := fun w x F s h uS sm hs rt => egetC_bad w x F s h uS sm rt
  get_ok := fun w x S room votes bs R c Z s b lo hi ex fu h uS rt sh hs hb hg => egetC_ok w x S room votes bs R c Z s b lo hi ex fu h uS rt sh hs hb hg
  list_bad := fun w x F most h uS sm _ rt => by
    have RC := right_is h uS sm false ⟨fun z => (by cases z), fun z => absurd z rt⟩
    obtain ⟨A, n, cap, LA, lcap, _, rfl, _, _⟩ := el_parts h
    refine (elistC_bad0 w F.S F.room F.votes F.LS F.LM A LA n cap F.R lcap most RC).mono ?_
    rintro e w' ⟨rfl, bb⟩
    exact ⟨_, rfl, fun u _ => its_none u, bb⟩
  list_ok := fun w x F most h uS rt sh _ => by
    have r8 := rt.2.1
    have sm : SmallE F := by
      obtain ⟨h1, h2, h3, h4, h5, h6, h7, h8, h9, h10⟩ := rt
      have ok := h7.ok
      refine ⟨by omega, ⟨by have : F.R ≤ 7 := ok.2.2.2.1; omega, fun i hi => ?_⟩, fun i b hb => ⟨by have := (h10 i b hb).1; omega, fun j e he => sh i b hb j e he⟩⟩
      have e := (h7.2.2.2.2.2.2 i hi).1
      have : F.L 0 ≤ 256 := ok.2.2.2.2.2.1
      rw [e]
      omega
    have RC := right_is h uS sm true ⟨fun _ => rt, fun _ => rfl⟩
    obtain ⟨A, n, cap, LA, lcap, hn, rfl, hB, _⟩ := el_parts h
    exact elistC_ok0 w F.S F.room F.votes F.LS F.LM A LA n cap F.R lcap F.bs most RC hB hn (by have := sm.1; omega) fun i b hb => (sm.2.2 i b hb).1
end Go.Proofs.Ytihealembikkiaa
