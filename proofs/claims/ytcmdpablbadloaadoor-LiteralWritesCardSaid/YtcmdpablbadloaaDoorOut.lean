/- Bytes that a call collects: the rows of its own, and the text of them. -/
import Derived.Test.YtcmdpablbadloaaDoorRows
import Derived.Test.YtcmdpablbadloaaDoorAid
import Derived.WalkKit
import Derived.WalkLawsBesides
import Derived.Laws.IdiomStrings
import Derived.Laws.BytesArg
import Derived.Laws.NewBlocks
namespace Go.Proofs.YtcmdpablbadloaaDoor
open Go.RowKit

/-- Bytes as cells. -/
def bv (l : List UInt8) : List Value := l.map fun b => .int .u8 (b.toNat : Int)
theorem bv_len (l : List UInt8) : (bv l).length = l.length := by simp [bv]
theorem bv_app (l m : List UInt8) : bv (l ++ m) = bv l ++ bv m := by simp [bv]
theorem infoB : (Tryd.prog.info? 5).map (fun i => (i.zero, i.size, i.bytes)) = some (some (.int .u8 0), 1, 1) := by kernel_rfl
/-- The text of a row of the call's own. -/
theorem own_text {w : World} {base : Nat} {v : Value} {l : List UInt8} (h : w.ownsRow base 5 1 v l.length (bv l)) : (convert 52 9 v).run Tryd.prog w = .ok (.string ⟨l.toArray⟩) w := by
  have hc := fun g hg => h.cells (g := g) hg
  rcases h.2 with ⟨rfl, h0⟩ | ⟨g, cap, cur, rfl, _⟩
  · obtain rfl := List.eq_nil_of_length_eq_zero h0
    exact run_convert_bytes_nil w 52 5 Tryd.underlying52 Tryd.underlying5 0 0 9 Tryd.underlying9
  · refine run_convert_bytes_back w 52 9 5 ⟨g, 0, none⟩ cap l Tryd.underlying52 Tryd.underlying5 Tryd.underlying9 (fun j hj => ?_)
    exact hc g rfl j _ (by simp [bv, List.getElem?_eq_getElem hj])
/-- A literal's row. -/
theorem own_lit (w : World) (l : List UInt8) (hl : l.length ≤ maxLen) (b : Nat) (hb : b ≤ w.heap.size) : (w.alloc (.cells (bv l).toArray 5)).ownsRow b 5 1 (.slice (some ⟨w.heap.size, 0, none⟩) l.length l.length) l.length (bv l) :=
  ⟨by simp [bv], .inr ⟨w.heap.size, l.length, (bv l).toArray, rfl, hb, heap_alloc_new w _, Nat.le_refl _, hl, by simp [bv], by simp only [bv, Nat.mul_one]; exact List.take_of_length_le (by simp)⟩⟩
end Go.Proofs.YtcmdpablbadloaaDoor
