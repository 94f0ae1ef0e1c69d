/- The walk of LiteralHeads. -/
import Derived.Test.YtcmdpablbadloaaDoorAwake6
import Derived.Test.YtcmdpablbadloaaDoorHead
import Derived.Test.YtcmdpablbadloaaDoorPHead
namespace Go.Proofs.YtcmdpablbadloaaDoor
open Go.RowKit

theorem cell_at4 {u : World} {b : Nat} {cs : Array Value} {t : TypeId} (h : u.heap[b]? = some (.cells cs t)) (j : Nat) (v : Value) (hv : cs[j]? = some v) : u.cell? ⟨b, j, none⟩ = some v := by
  simp [World.cell?, h, hv]
/-- What the two calls answer at a place: the same. -/
def HdAt (s : ByteArray) (p : Int) (i c n : Int) (ok : Bool) : Prop :=
  (∀ w, Calls Tryd.prog 6 #[.string s, .int .i64 p] w fun e w' => e = .returned (.tuple #[.agg #[.int .i64 i, .int .i64 c], .int .i64 n, .bool ok]) ∧ Below w.heap.size w w') ∧
  (∀ w, Calls Tryd.prog 7 #[.string s, .int .i64 p] w fun e w' => e = .returned (.tuple #[.agg #[.int .i64 i, .int .i64 c], .int .i64 n, .bool ok]) ∧ Below w.heap.size w w')
theorem hdAt (s : ByteArray) (p : Int) (hs : s.size ≤ 1000000) : ∃ i c n ok, HdAt s p i c n ok := by
  by_cases h : p < 0 ∨ (s.size : Int) ≤ p ∨ ∃ (i : Nat) (_ : i < s.size), p = i ∧ bt s i ≠ 124
  · exact ⟨0, 0, 0, false, fun w => pHead_no s p w h, fun w => refHead_no s p w h⟩
  · have h1 : ¬ p < 0 := fun e => h (.inl e)
    have h2 : ¬ (s.size : Int) ≤ p := fun e => h (.inr (.inl e))
    obtain ⟨q, rfl⟩ : ∃ q : Nat, p = q := ⟨p.toNat, by omega⟩
    have hq : q < s.size := by omega
    have h3 : bt s q = 124 := by
      rcases Decidable.em (bt s q = 124) with e | e
      · exact e
      · exact absurd (.inr (.inr ⟨q, hq, rfl, e⟩)) h
    exact ⟨_, _, _, _, fun w => pHead_yes s q w hs hq h3, fun w => refHead_yes s q w hs hq h3⟩

set_option maxRecDepth 100000 in
set_option maxHeartbeats 4000000 in
theorem literalHeads_walk (s : ByteArray) (p : Int) (hs : s.size ≤ maxLen) (_hp : (Lit.int IntKind.i64 p).wf = true) (w : World) (hT : Lib.Utf8Tabs 0 1 w) :
    Calls Tryd.prog 3 #[.string s, .int .i64 p] w fun e w' => e = .returned (.bool true) ∧ Below w.heap.size w w' := by
  unfold maxLen at hs
  have HT := Lib.hid hT
  clear hT
  by_cases hl : 2000 < s.size
  · go_enter Tryd.func3, Tryd.ntmps3
    go_wp2_with fail
    refine (awake6_any _ HT.out).mono ?_
    rintro e w1 ⟨rfl, hb⟩
    go_wp2
    go_ret
    exact ⟨rfl, hb⟩
  obtain ⟨i, c, n, ok, h1, h2⟩ := hdAt s p (by omega)
  have H1 := Lib.hid h1
  have H2 := Lib.hid h2
  clear h1 h2
  go_enter Tryd.func3, Tryd.ntmps3
  go_wp2_with fail
  refine (H1.out _).mono ?_
  rintro e w1 ⟨rfl, hb1⟩
  have hb1a := hb1.alloc hb1.size (.cells #[.int .i64 i, .int .i64 c] 24)
  have hx1 := heap_alloc_new w1 (.cells #[.int .i64 i, .int .i64 c] 24)
  have HX1 := Lib.hid hx1
  clear hx1
  go_wp2_with fail
  refine (H2.out _).mono ?_
  rintro e w2 ⟨rfl, hb2⟩
  have hx1 := (hb2.block w1.heap.size (by simp)).trans HX1.out
  have hB2 := hb1a.trans (hb2.mono hb1a.size)
  have hl1 : w1.heap.size < w2.heap.size := by have := hb2.size; simp at this; omega
  have hx1' := (((Below.refl w2.heap.size w2).alloc (Nat.le_refl _) (.cells #[.int .i64 i, .int .i64 c] 27)).block w1.heap.size hl1).trans hx1
  have hx2 := heap_alloc_new w2 (.cells #[.int .i64 i, .int .i64 c] 27)
  have hB2a := hB2.alloc hB2.size (.cells #[.int .i64 i, .int .i64 c] 27)
  have HX1 := Lib.hid hx1'
  have HX2 := Lib.hid hx2
  clear hx1 hx1' hx2 hb1 hb1a hb2 hB2
  go_wp2_with fail
  refine (awake6_any _ (Utf8Tabs_below HT.out hB2a)).mono ?_
  rintro e w3 ⟨rfl, hb3⟩
  have hx1 := (hb3.block w1.heap.size (by simp; omega)).trans HX1.out
  have hx2 := (hb3.block w2.heap.size (by simp)).trans HX2.out
  have a0 := cell_at4 hx1 0 _ rfl
  have a1 := cell_at4 hx1 1 _ rfl
  have b0 := cell_at4 hx2 0 _ rfl
  have b1 := cell_at4 hx2 1 _ rfl
  have hB3 := hB2a.trans (hb3.mono hB2a.size)
  clear hx1 hx2 hb3 hB2a
  go_wp2
  go_ret
  exact ⟨rfl, hB3⟩
end Go.Proofs.YtcmdpablbadloaaDoor
