
/-
  HeavyNone, over the heap's contracts: of no heap nothing is told.
-/
import Derived.Test.YtejdfahokbheoaaHevCtr
namespace Go.Proofs.Ytejdfahokbheoaa
open Go.RowKit Hv Go.Deep
set_option linter.unusedVariables false

set_option maxHeartbeats 1600000 in
theorem none_walk {HP : HPT} (C : Ctr HP) (s : ByteArray) (c : Int) (w : World) : Calls Try.prog 6 #[.string s, .int .i64 c] w fun e w' => e = .returned (.bool true) ∧ Below w.heap.size w w' := by
  go_enter Try.func6, Try.ntmps6
  go_wp2_with fail
  refine (C.get_nil w s).mono ?_
  rintro e u1 ⟨rfl, b1⟩
  have BE1 := hid b1
  clear b1
  go_wp2_with fail
  refine (C.last_nil u1).mono ?_
  rintro e u2 ⟨rfl, b2⟩
  have BE2 := hid (bel_trans BE1.out b2)
  have z2 := BE2.out.size
  clear b2
  go_wp2_with fail
  have BE3 : Hid (Below w.heap.size w (u2.alloc (.cells #[.string ⟨#[]⟩, .int .i64 0] 30))) := bel_trans BE2.out (bel_alloc u2 _)
  generalize u2.alloc (.cells #[.string ⟨#[]⟩, .int .i64 0] 30) = u3 at BE3 ⊢
  refine (C.offer_nil u3 s c).mono ?_
  rintro e u4 ⟨rfl, b4⟩
  have BE4 := hid (bel_trans BE3.out b4)
  clear b4
  go_wp2_with fail
  refine (C.list_nil u4).mono ?_
  rintro e u5 ⟨lv, rfl, L, b5⟩
  have BE5 := hid (bel_trans BE4.out b5)
  obtain ⟨A, cap, b, o, rfl, _⟩ := L.its
  simp only [List.length_nil] at *
  clear L b5
  go_wp2_with fail
  refine (C.len_nil u5).mono ?_
  rintro e u6 ⟨rfl, b6⟩
  have BE6 := hid (bel_trans BE5.out b6)
  clear b6
  go_wp2_with fail
  refine (C.check_nil u6).mono ?_
  rintro e u7 ⟨rfl, b7⟩
  have BE7 := hid (bel_trans BE6.out b7)
  clear b7
  go_wp2_with fail
  refine (hawake_any C u7).mono ?_
  rintro e u8 ⟨rfl, b8⟩
  go_wp2_with fail
  go_ret
  exact ⟨rfl, bel_trans BE7.out b8⟩
end Go.Proofs.Ytejdfahokbheoaa
