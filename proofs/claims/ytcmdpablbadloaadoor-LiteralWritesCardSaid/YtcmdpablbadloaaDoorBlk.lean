/- The walk of the document's blanks (layer 6). -/
import Derived.Test.YtcmdpablbadloaaDoorOut
import Derived.WalkSpells
import Derived.Lib.Hide
namespace Go.Proofs.YtcmdpablbadloaaDoor
open Go.RowKit

def blk (n : Nat) : List UInt8 := List.replicate n 32
theorem blk_len (n : Nat) : (blk n).length = n := by simp [blk]
theorem blk_snoc (n : Nat) : blk n ++ [32] = blk (n + 1) := by simp [blk, List.replicate_succ']

set_option maxRecDepth 100000 in
set_option maxHeartbeats 2000000 in
theorem blanks_any (n : Nat) (w : World) (hn : n ≤ 100000) :
    Calls Tryd.prog 18 #[.int .i64 n] w fun e w' => e = .returned (.string ⟨(blk n).toArray⟩) ∧ Below w.heap.size w w' := by
  obtain ⟨i0, hi, hz0, hz1, hz2⟩ := info_parts infoB
  have hmx : (100000 : Nat) < maxLen := by decide
  have hmk : ∀ w : World, (Instr.makeSlice 52 (.int .i64 0) (.int .i64 16)).run Tryd.prog w = .ok (.slice (some ⟨w.heap.size, 0, none⟩) 0 16) (w.alloc (.cells #[.int .u8 0, .int .u8 0, .int .u8 0, .int .u8 0, .int .u8 0, .int .u8 0, .int .u8 0, .int .u8 0, .int .u8 0, .int .u8 0, .int .u8 0, .int .u8 0, .int .u8 0, .int .u8 0, .int .u8 0, .int .u8 0] 5)) := fun _ => by kernel_rfl
  go_enter Tryd.func18, Tryd.ntmps18
  go_wp2
  go_loopw [3, 4] (fun v j wr => ∃ k : Nat, j = .int .i64 k ∧ k ≤ n ∧ wr.ownsRow w.heap.size 5 1 v k (bv (blk k)) ∧ Below w.heap.size w wr) (fun _ j _ => n - (intOf j).toNat)
  case atStart =>
    refine ⟨0, rfl, by omega, ?_, (Below.refl _ _).alloc (Nat.le_refl _) _⟩
    exact ⟨rfl, .inr ⟨w.heap.size, 16, _, rfl, Nat.le_refl _, heap_alloc_new w _, by omega, by decide, rfl, rfl⟩⟩
  case round =>
    obtain ⟨k, rfl, hk, hown, hb⟩ := hrel
    have hz := hb.size
    by_cases hlt : k < n
    · go_wp2_with (at_builtin; refine wpList_append_own _ rfl _ _ 52 rfl w.heap.size 5 i0 (.int .u8 0) 1 1 Tryd.underlying52 hi hz0 hz1 hz2 rfl (by decide) _ _ _ rfl (hown.alloc _) ⟨wr.heap.size, 0, none⟩ 1 1 (bv [32]) rfl rfl (fun j u hj => cells_new wr _ _ j u hj) (fun y hy => by simp [bv] at hy; subst hy; rfl) (by omega) (by omega) (by simp; omega) ?_)
      intro v1 w1 own1 g1 _
      have hb1 := below_of_grown (hb.alloc hz _) g1 (by simp; omega) (hown.alloc _)
      rw [← bv_app, blk_snoc] at own1
      clear hown g1 hb
      go_wp2
      go_roundw
      case rel => exact ⟨k + 1, by go_num, by omega, own1, hb1⟩
      case measure => simp [intOf]; omega
    · obtain rfl : k = n := by omega
      have hl := blk_len k
      have hconv := own_text (by rw [hl]; exact hown)
      clear hown
      go_wp2
      go_ret
      exact ⟨rfl, hb⟩
end Go.Proofs.YtcmdpablbadloaaDoor
