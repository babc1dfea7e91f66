/-
  A string as bytes of the call's own, one of them turned, and back; bytes that are made. Nothing of one layer is in this text.
-/
import Derived.Test.YticopigpgaomjaaMemKit
import Derived.Laws.AppendOwn
import Derived.Laws.BitsAllLaws
namespace Go.Proofs.Yticopigpgaomjaa
open Go.RowKit Oc Go.Deep

/-- What '[]byte(s)' makes. -/
structure Bytes (w W : World) (g cap : Nat) (l : List UInt8) : Prop where
  run : (convert 9 51 (.string (bsL l))).run Try.prog w = .ok (.slice (some ⟨g, 0, none⟩) l.length cap) W
  cap : l.length ≤ cap
  since : Below w.heap.size w W
  new : w.heap.size ≤ g
  lt : g < W.heap.size
  cell : ∀ j (hj : j < l.length), W.cell? ⟨g, j, none⟩ = some (.int .u8 (l[j].toNat : Int))
  frozen : ∀ j, j < l.length → W.frozen? ⟨g, j, none⟩ = false
theorem str_bytes (w : World) (l : List UInt8) : ∃ W g cap, Bytes w W g cap l := by
  have r := run_bytes_of_string (P := Try.prog) w 9 51 5 (bsL l) Try.underlying9 Try.underlying51 Try.underlying5
  have hc := grownCap_ge w (bsL l).size 0 5
  rw [bsL_size] at r hc
  generalize grownCap w l.length 0 5 = cap at r hc
  have hb : (w.drew.alloc (.cells (bytesRow (bsL l) cap) 5 ((bytesRow (bsL l) cap).size, (bytesRow (bsL l) cap).size + 1))).heap[w.heap.size]? = some (.cells (bytesRow (bsL l) cap) 5 ((bytesRow (bsL l) cap).size, (bytesRow (bsL l) cap).size + 1)) := by
    show (w.heap.push _)[w.heap.size]? = _
    simp
  have hz : l.length ≤ (bytesRow (bsL l) cap).size := by simp [bytesRow, bsL]
  refine ⟨_, _, _, r, hc, ((Below.refl _ _).drew).alloc (Nat.le_refl _) _, Nat.le_refl _, ?_, fun j hj => ?_, fun j hj => ?_⟩
  · show w.heap.size < (w.heap.push _).size
    simp
  · have e := bytesRow_at (bsL l) cap j (by simpa [bsL] using hj)
    unfold World.cell?
    rw [hb]
    simpa [bsL] using e
  · unfold World.frozen?
    rw [hb]
    simp
    omega
/-- One byte turned, and back. -/
theorem bytes_back {w W : World} {g cap : Nat} {l : List UInt8} (h : Bytes w W g cap l) (k : Nat) (hk : k < l.length) (c : UInt8) :
    (convert 51 9 (.slice (some ⟨g, 0, none⟩) l.length cap)).run Try.prog (W.setCell ⟨g, k, none⟩ (.int .u8 (c.toNat : Int))) = .ok (.string (bsL (l.set k c))) (W.setCell ⟨g, k, none⟩ (.int .u8 (c.toNat : Int))) := by
  have r := run_convert_bytes_back (P := Try.prog) (W.setCell ⟨g, k, none⟩ (.int .u8 (c.toNat : Int))) 51 9 5 ⟨g, 0, none⟩ cap (l.set k c) Try.underlying51 Try.underlying5 Try.underlying9 (fun j hj => by
    have hj2 : j < l.length := by rw [List.length_set] at hj; exact hj
    rw [Addr.add_lit, Nat.zero_add]
    by_cases e : j = k
    · subst e
      rw [World.cell?_setCell_same _ _ _ (h.cell j hj2), List.getElem_set_self]
    · rw [World.cell?_setCell_other _ _ _ _ (fun x => e (by cases x; rfl)), h.cell j hj2, List.getElem_set_ne (fun x => e x.symm)])
  rw [List.length_set] at r
  exact r
/-- So many bytes 0, as a string. -/
theorem made_back (w : World) (n : Nat) :
    (convert 51 9 (.slice (some ⟨w.heap.size, 0, none⟩) n n)).run Try.prog (w.alloc (.cells (madeCells #[.int .u8 0] n) 5)) = .ok (.string (bsL (List.replicate n 0))) (w.alloc (.cells (madeCells #[.int .u8 0] n) 5)) := by
  have r := run_convert_bytes_back (P := Try.prog) (w.alloc (.cells (madeCells #[.int .u8 0] n) 5)) 51 9 5 ⟨w.heap.size, 0, none⟩ n (List.replicate n 0) Try.underlying51 Try.underlying5 Try.underlying9 (fun j hj => by
    have hj2 : j < n := by rw [List.length_replicate] at hj; exact hj
    rw [Addr.add_lit, Nat.zero_add, World.rowIs.cell (World.rowIs_made w (.int .u8 0) n 5) hj2]
    simp)
  rw [List.length_replicate] at r
  exact r
/-- Bytes of the call's own, as a string. -/
theorem conv_blk {v : World} {g : Nat} (l : List UInt8) (h : Blk v g 5 (l.map fun c => Value.int .u8 (c.toNat : Int)).toArray) :
    (convert 51 9 (.slice (some ⟨g, 0, none⟩) l.length l.length)).run Try.prog v = .ok (.string (bsL l)) v := by
  refine run_convert_bytes_back (P := Try.prog) v 51 9 5 ⟨g, 0, none⟩ l.length l Try.underlying51 Try.underlying5 Try.underlying9 (fun j hj => ?_)
  rw [Addr.add_lit, Nat.zero_add, h.cell j]
  simp [hj]
end Go.Proofs.Yticopigpgaomjaa
