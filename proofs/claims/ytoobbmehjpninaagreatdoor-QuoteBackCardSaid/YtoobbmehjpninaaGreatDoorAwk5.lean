/- The walk of layer 5's Awake: the document's example. -/
import Derived.Test.YtoobbmehjpninaaGreatDoorQRS
import Derived.Test.YtoobbmehjpninaaGreatDoorQSgl
import Derived.Test.YtoobbmehjpninaaGreatDoorAwakeText
namespace Go.Proofs.YtoobbmehjpninaaGreatDoor
open Go.RowKit

theorem rd_ex : rdS ⟨#[39, 97, 39, 39, 98, 39, 99]⟩ 7 1 = some ([97, 39, 98], 6) := by decide +kernel
theorem sgl_ex : sglT ⟨#[39, 97, 39, 39, 98, 39, 99]⟩ 0 = .tuple #[.string ⟨#[97, 39, 98]⟩, .int .i64 6, .agg #[.int .i64 0, .int .i64 0]] := by
  unfold sglT
  rw [show (⟨#[39, 97, 39, 39, 98, 39, 99]⟩ : ByteArray).size = 7 from rfl, rd_ex]; rfl
theorem wd_ex : wdL ⟨#[10, 34, 101, 34]⟩ = [34, 92, 110, 92, 34, 101, 92, 34, 34] := by decide +kernel
theorem ws_ex : wsL (⟨#[97, 39, 98]⟩ : ByteArray).data.toList = [39, 97, 39, 39, 98, 39] := by decide +kernel

set_option maxRecDepth 100000 in
set_option maxHeartbeats 4000000 in
theorem awake5_any (w : World) (ht : TzCell w) (hm : MaxLenCell w) :
    Calls Tryz.prog 5 #[] w fun e w' => e = .returned (.bool true) ∧ Below w.heap.size w w' := by
  have hR := readSingle_yes ⟨#[39, 97, 39, 39, 98, 39, 99]⟩ 0 w (by decide) (by decide) (by decide +kernel)
  rw [sgl_ex] at hR
  go_enter Tryz.func5, Tryz.ntmps5
  go_wp2_with fail
  refine hR.mono ?_
  rintro e w1 ⟨rfl, hb1⟩
  go_wp2_with fail
  refine (awake2_any _).mono ?_
  rintro e w2 ⟨rfl, hb2⟩
  have hb2' := ((Below.refl w1.heap.size w1).alloc (Nat.le_refl _) (.cells #[.int .i64 0, .int .i64 0] 29)).trans (hb2.mono (by simp))
  have hr2 := (hb2.block w1.heap.size (by simp)).trans (heap_alloc_new w1 _)
  have hB2 := hb1.trans (hb2'.mono hb1.size)
  have hl2 : w1.heap.size < w2.heap.size := (Array.getElem?_eq_some_iff.1 hr2).1
  have hD := double_any ⟨#[10, 34, 101, 34]⟩ w2 (by decide) (tz_below ht hB2)
  rw [wd_ex] at hD
  have HR2 := Lib.hid hr2
  clear hR hb2 hb2' hr2
  go_wp2_with fail
  refine hD.mono ?_
  rintro e w3 ⟨rfl, hb3⟩
  have hr3 := (hb3.block w1.heap.size hl2).trans HR2.out
  have rc0 := cell_heap4 hr3 0 _ rfl
  have rc1 := cell_heap4 hr3 1 _ rfl
  have hB3 := hB2.trans (hb3.mono hB2.size)
  clear hD hb3 hr3
  go_wp2_with fail
  refine (bad_any _ _ _).mono ?_
  rintro e w4 ⟨rfl, hb4⟩
  have hB4 := hB3.trans (hb4.mono hB3.size)
  have hS := single_any ⟨#[97, 39, 98]⟩ w4 (by decide) (max_below hm hB4)
  rw [ws_ex] at hS
  clear hb4 rc0 rc1
  go_wp2_with fail
  refine hS.mono ?_
  rintro e w5 ⟨rfl, hb5⟩
  have hB5 := hB4.trans (hb5.mono hB4.size)
  clear hS hb5
  go_wp2
  go_ret
  exact ⟨rfl, hB5⟩
end Go.Proofs.YtoobbmehjpninaaGreatDoor
