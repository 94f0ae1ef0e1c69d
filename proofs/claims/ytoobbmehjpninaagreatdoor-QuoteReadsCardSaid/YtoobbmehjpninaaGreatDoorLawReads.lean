/- The walk of the law QuoteReads. -/
import Derived.Test.YtoobbmehjpninaaGreatDoorAwk5
import Derived.Test.YtoobbmehjpninaaGreatDoorQRD
import Derived.Test.YtoobbmehjpninaaGreatDoorRSingle
import Derived.Test.YtoobbmehjpninaaGreatDoorRDouble
import Derived.Deep.RegionHeld3
namespace Go.Proofs.YtoobbmehjpninaaGreatDoor
open Go.RowKit

theorem got_pair (l : List UInt8) (p n : Int) : ∃ t m c a, gotV l p n = .agg #[.string t, .int .i64 m, .int .i64 c, .int .i64 a] ∧ gotT l p n = .tuple #[.string t, .int .i64 m, .agg #[.int .i64 c, .int .i64 a]] := by
  unfold gotV gotT
  by_cases h : 1024 < l.length
  · rw [if_pos h, if_pos h]; exact ⟨_, _, _, _, rfl, rfl⟩
  · rw [if_neg h, if_neg h]; exact ⟨_, _, _, _, rfl, rfl⟩
theorem sgl_pair (s : ByteArray) (p : Nat) : ∃ t m c a, sglV s p = .agg #[.string t, .int .i64 m, .int .i64 c, .int .i64 a] ∧ sglT s p = .tuple #[.string t, .int .i64 m, .agg #[.int .i64 c, .int .i64 a]] := by
  unfold sglV sglT
  cases rdS s s.size (p + 1) with
  | none => exact ⟨_, _, _, _, rfl, rfl⟩
  | some x => exact got_pair x.1 p x.2
theorem dbl_pair (s : ByteArray) (p : Nat) : ∃ t m c a, dblV s p = .agg #[.string t, .int .i64 m, .int .i64 c, .int .i64 a] ∧ dblT s p = .tuple #[.string t, .int .i64 m, .agg #[.int .i64 c, .int .i64 a]] := by
  unfold dblV dblT
  cases rdD s s.size (p + 1) with
  | done l n => exact got_pair l p n
  | bad i => exact ⟨_, _, _, _, rfl, rfl⟩
  | cut => exact ⟨_, _, _, _, rfl, rfl⟩
theorem stand_cases (s : ByteArray) (p : Int) (m : Nat) : (p < 0 ∨ (s.size : Int) ≤ p ∨ ∃ (i : Nat) (_ : i < s.size), p = i ∧ bt s i ≠ m) ∨ ∃ i : Nat, i < s.size ∧ p = i ∧ bt s i = m := by
  by_cases h0 : p < 0
  · exact .inl (.inl h0)
  by_cases h1 : (s.size : Int) ≤ p
  · exact .inl (.inr (.inl h1))
  obtain ⟨i, rfl⟩ : ∃ i : Nat, p = i := ⟨p.toNat, by omega⟩
  by_cases hb : bt s i = m
  · exact .inr ⟨i, by omega, rfl, hb⟩
  · exact .inl (.inr (.inr ⟨i, by omega, rfl, hb⟩))
theorem single_both (s : ByteArray) (p : Int) (hs : s.size ≤ 3000) : ∃ t m c a,
    (∀ w, Calls Tryz.prog 7 #[.string s, .int .i64 p] w fun e w' => e = .returned (.agg #[.string t, .int .i64 m, .int .i64 c, .int .i64 a]) ∧ Below w.heap.size w w') ∧
    (∀ w, Calls Tryz.prog 6 #[.string s, .int .i64 p] w fun e w' => e = .returned (.tuple #[.string t, .int .i64 m, .agg #[.int .i64 c, .int .i64 a]]) ∧ Below w.heap.size w w') := by
  rcases stand_cases s p 39 with h | ⟨i, hi, rfl, hb⟩
  · exact ⟨_, _, _, _, fun w => refSingle_no s p w (by omega) h, fun w => readSingle_no s p w h⟩
  · obtain ⟨t, m, c, a, h1, h2⟩ := sgl_pair s i
    exact ⟨t, m, c, a, fun w => h1 ▸ refSingle_yes s i w (by omega) hi hb, fun w => h2 ▸ readSingle_yes s i w (by omega) hi hb⟩
theorem double_both (s : ByteArray) (p : Int) (hs : s.size ≤ 3000) : ∃ t m c a,
    (∀ w, Calls Tryz.prog 9 #[.string s, .int .i64 p] w fun e w' => e = .returned (.agg #[.string t, .int .i64 m, .int .i64 c, .int .i64 a]) ∧ Below w.heap.size w w') ∧
    (∀ w, ErrCell w → Calls Tryz.prog 8 #[.string s, .int .i64 p] w fun e w' => e = .returned (.tuple #[.string t, .int .i64 m, .agg #[.int .i64 c, .int .i64 a]]) ∧ Below w.heap.size w w') := by
  rcases stand_cases s p 34 with h | ⟨i, hi, rfl, hb⟩
  · exact ⟨_, _, _, _, fun w => refDouble_no s p w (by omega) h, fun w _ => readDouble_no s p w h⟩
  · obtain ⟨t, m, c, a, h1, h2⟩ := dbl_pair s i
    exact ⟨t, m, c, a, fun w => h1 ▸ refDouble_yes s i w (by omega) hi hb, fun w hE => h2 ▸ readDouble_yes s i w (by omega) hi hb hE⟩

theorem fault_any (a b : Int) (w : World) :
    Calls Tryz.prog 10 #[.int .i64 a, .int .i64 b] w fun e w' => e = .returned (.agg #[.int .i64 a, .int .i64 b]) ∧ Below w.heap.size w w' := by
  go_enter Tryz.func10, Tryz.ntmps10
  go_wp2
  refine bodyPost_ret (v := .agg #[.int .i64 a, .int .i64 b]) (by simp [results, Tryz.results10, go_sem]) rfl ⟨rfl, ?_⟩
  exact ((Below.refl _ _).alloc (Nat.le_refl _) _)

/-- The wanted answer's four cells, the fault's two; below them all is as it was. -/
def RdAt (w : World) (g h : Nat) (t : ByteArray) (m c a : Int) (w' : World) : Prop :=
  w'.cell? ⟨g, 0, none⟩ = some (.string t) ∧ w'.cell? ⟨g, 1, none⟩ = some (.int .i64 m) ∧ w'.cell? ⟨g, 2, none⟩ = some (.int .i64 c) ∧ w'.cell? ⟨g, 3, none⟩ = some (.int .i64 a) ∧ w'.cell? ⟨h, 0, none⟩ = some (.int .i64 c) ∧ w'.cell? ⟨h, 1, none⟩ = some (.int .i64 a) ∧ g < w'.heap.size ∧ h < w'.heap.size ∧ Below w.heap.size w w'
theorem RdAt.keep {w : World} {g h : Nat} {t : ByteArray} {m c a : Int} {W w' : World} (hS : RdAt w g h t m c a W) (hb : Below W.heap.size W w') : RdAt w g h t m c a w' := by
  obtain ⟨h0, h1, h2, h3, h4, h5, h6, h7, h8⟩ := hS
  have hz := hb.size
  refine ⟨?_, ?_, ?_, ?_, ?_, ?_, by omega, by omega, h8.trans (hb.mono h8.size)⟩
  · rw [hb.cell (p := ⟨g, 0, none⟩) h6]; exact h0
  · rw [hb.cell (p := ⟨g, 1, none⟩) h6]; exact h1
  · rw [hb.cell (p := ⟨g, 2, none⟩) h6]; exact h2
  · rw [hb.cell (p := ⟨g, 3, none⟩) h6]; exact h3
  · rw [hb.cell (p := ⟨h, 0, none⟩) h7]; exact h4
  · rw [hb.cell (p := ⟨h, 1, none⟩) h7]; exact h5
theorem awake_rd {w : World} (ht : TzCell w) (hm : MaxLenCell w) (g h : Nat) (t : ByteArray) (m c a : Int) (W : World) (hS : RdAt w g h t m c a W) :
    Calls Tryz.prog 5 #[] W fun e w' => e = .returned (.bool true) ∧ RdAt w g h t m c a w' :=
  (awake5_any W (tz_below ht hS.2.2.2.2.2.2.2.2) (max_below hm hS.2.2.2.2.2.2.2.2)).mono fun _ _ ⟨h1, h2⟩ => ⟨h1, hS.keep h2⟩
theorem fault_rd {w : World} (x y : Int) (g h : Nat) (t : ByteArray) (m c a : Int) (W : World) (hS : RdAt w g h t m c a W) :
    Calls Tryz.prog 10 #[.int .i64 x, .int .i64 y] W fun e w' => e = .returned (.agg #[.int .i64 x, .int .i64 y]) ∧ RdAt w g h t m c a w' :=
  (fault_any x y W).mono fun _ _ ⟨h1, h2⟩ => ⟨h1, hS.keep h2⟩

set_option maxRecDepth 100000 in
set_option maxHeartbeats 4000000 in
theorem quoteReads_walk (s : ByteArray) (p : Int) (d : Bool) (hs : s.size ≤ maxLen) (_hp : (Lit.int .i64 p).wf = true) (w : World) (hv : TzCell w ∧ MaxLenCell w ∧ ErrCell w) :
    Calls Tryz.prog 3 #[.string s, .int .i64 p, .bool d] w fun e w' => e = .returned (.bool true) ∧ Below w.heap.size w w' := by
  obtain ⟨ht, hm, hE⟩ := hv
  unfold maxLen at hs
  by_cases h : 3000 < s.size
  · have hA := awake5_any w ht hm
    go_enter Tryz.func3, Tryz.ntmps3
    go_wp2_with fail
    refine hA.mono ?_
    rintro e w1 ⟨rfl, hb1⟩
    go_wp2
    go_ret
    exact ⟨rfl, hb1⟩
  have hs2 : s.size ≤ 3000 := by omega
  clear h hs
  cases d with
  | false =>
    obtain ⟨t, m, c, a, h1, h2⟩ := single_both s p hs2
    go_enter Tryz.func3, Tryz.ntmps3
    go_wp2_with fail
    refine (h1 _).mono ?_
    rintro e w1 ⟨rfl, hb1⟩
    go_wp2_with fail
    refine (h2 _).mono ?_
    rintro e w2 ⟨rfl, hb2⟩
    have hS0 : RdAt w w1.heap.size w2.heap.size t m c a (w2.alloc (.cells #[.int .i64 c, .int .i64 a] 29)) := by
      have hB2 := (hb1.alloc hb1.size (.cells #[.string t, .int .i64 m, .int .i64 c, .int .i64 a] 25)).trans (hb2.mono (by have := hb1.size; simp; omega))
      have r2 := (hb2.block w1.heap.size (by simp)).trans (heap_alloc_new w1 _)
      have l2 : w1.heap.size < w2.heap.size := (Array.getElem?_eq_some_iff.1 r2).1
      have r3 := (Lib.alloc_old w2 (.cells #[.int .i64 c, .int .i64 a] 29) w1.heap.size l2).trans r2
      exact ⟨cell_heap4 r3 0 _ rfl, cell_heap4 r3 1 _ rfl, cell_heap4 r3 2 _ rfl, cell_heap4 r3 3 _ rfl, by simp, by simp, by simp; omega, by simp, hB2.alloc hB2.size _⟩
    have HS0 := Lib.hid hS0
    clear hS0 hb1 hb2 h1 h2 hE
    have t1 : (c == c) = true := by simp
    have t2 : (a == a) = true := by simp
    go_wp2_with fail
    obtain ⟨W3, hW3⟩ : ∃ W3, w2.alloc (.cells #[.int .i64 c, .int .i64 a] 29) = W3 := ⟨_, rfl⟩
    rw [hW3] at HS0 ⊢
    clear hW3
    generalize w1.heap.size = g at *
    generalize w2.heap.size = h at *
    go_region_held3 (fun w' => w'.cell? ⟨g, 0, none⟩ = some (.string t) ∧ w'.cell? ⟨g, 1, none⟩ = some (.int .i64 m) ∧ w'.cell? ⟨g, 2, none⟩ = some (.int .i64 c) ∧ w'.cell? ⟨g, 3, none⟩ = some (.int .i64 a) ∧ w'.cell? ⟨h, 0, none⟩ = some (.int .i64 c) ∧ w'.cell? ⟨h, 1, none⟩ = some (.int .i64 a) ∧ g < w'.heap.size ∧ h < w'.heap.size ∧ Below w.heap.size w w') (first | exact RdAt.keep (w := w) HS0.out ((Below.refl _ _).drew) | exact ‹RdAt w _ _ _ _ _ _ _› | exact RdAt.keep (w := w) (g := g) (h := h) (t := t) (m := m) (c := c) (a := a) ⟨‹_›, ‹_›, ‹_›, ‹_›, ‹_›, ‹_›, ‹_›, ‹_›, ‹_›⟩ ((Below.refl _ _).drew) | go_keep)
      (first | (go_at_call 5; refine (awake_rd ht hm g h t m c a _ ?_).mono ?_; (first | exact HS0.out | exact ‹RdAt w _ _ _ _ _ _ _› | exact ⟨‹_›, ‹_›, ‹_›, ‹_›, ‹_›, ‹_›, ‹_›, ‹_›, ‹_›⟩); rintro e w' ⟨rfl, hs'⟩) | (go_at_call 10; refine (fault_rd c a g h t m c a _ hs').mono ?_; rintro e w'' ⟨rfl, hs''⟩))
    go_wp2
    go_ret
    exact ⟨rfl, hs''.2.2.2.2.2.2.2.2⟩
  | true =>
    obtain ⟨t0, m0, c0, a0, h1, _⟩ := single_both s p hs2
    obtain ⟨t, m, c, a, h2, h3⟩ := double_both s p hs2
    go_enter Tryz.func3, Tryz.ntmps3
    go_wp2_with fail
    refine (h1 _).mono ?_
    rintro e w1 ⟨rfl, hb1⟩
    go_wp2_with fail
    refine (h2 _).mono ?_
    rintro e w2 ⟨rfl, hb2⟩
    have hB2 := (hb1.alloc hb1.size (.cells #[.string t0, .int .i64 m0, .int .i64 c0, .int .i64 a0] 25)).trans (hb2.mono (by have := hb1.size; simp; omega))
    have r2 := (hb2.block w1.heap.size (by simp)).trans (heap_alloc_new w1 _)
    have l2 : w1.heap.size < w2.heap.size := (Array.getElem?_eq_some_iff.1 r2).1
    have hz1 := hb1.size
    have rc0 := cell_heap4 r2 0 _ rfl
    have rc1 := cell_heap4 r2 1 _ rfl
    have rc2 := cell_heap4 r2 2 _ rfl
    have rc3 := cell_heap4 r2 3 _ rfl
    have rf0 := free_heap4 r2 0
    have rf1 := free_heap4 r2 1
    have rf2 := free_heap4 r2 2
    have rf3 := free_heap4 r2 3
    have R2 := Lib.hid r2
    clear h1 h2 hb1 hb2 r2
    have q0 := heap_setCell_same w2 w1.heap.size 0 _ _ (.string t) R2.out
    have q1 := heap_setCell_same _ w1.heap.size 1 _ _ (.int .i64 m) q0
    have q2 := heap_setCell_same _ w1.heap.size 2 _ _ (.int .i64 c) q1
    have q3 := heap_setCell_same _ w1.heap.size 3 _ _ (.int .i64 a) q2
    have hBc := (((hB2.setCell (p := ⟨w1.heap.size, 0, none⟩) hz1 (.string t)).setCell (p := ⟨w1.heap.size, 1, none⟩) hz1 (.int .i64 m)).setCell (p := ⟨w1.heap.size, 2, none⟩) hz1 (.int .i64 c)).setCell (p := ⟨w1.heap.size, 3, none⟩) hz1 (.int .i64 a)
    go_wp2_with fail
    obtain ⟨W2, hW2⟩ : ∃ W2, ((((w2.setCell ⟨w1.heap.size, 0, none⟩ (.string t)).setCell ⟨w1.heap.size, 1, none⟩ (.int .i64 m)).setCell ⟨w1.heap.size, 2, none⟩ (.int .i64 c)).setCell ⟨w1.heap.size, 3, none⟩ (.int .i64 a)) = W2 := ⟨_, rfl⟩
    rw [hW2] at q3 hBc ⊢
    have r2 : W2.heap[w1.heap.size]? = some (.cells #[.string t, .int .i64 m, .int .i64 c, .int .i64 a] 25) := q3
    clear q0 q1 q2 q3 hW2 rc0 rc1 rc2 rc3 rf0 rf1 rf2 rf3 R2 hB2 l2
    refine (h3 _ (err_below hE hBc)).mono ?_
    rintro e w3 ⟨rfl, hb3⟩
    have hS0 : RdAt w w1.heap.size w3.heap.size t m c a (w3.alloc (.cells #[.int .i64 c, .int .i64 a] 29)) := by
      have hB3 := hBc.trans (hb3.mono hBc.size)
      have r3 := (hb3.block w1.heap.size (Array.getElem?_eq_some_iff.1 r2).1).trans r2
      have l3 : w1.heap.size < w3.heap.size := (Array.getElem?_eq_some_iff.1 r3).1
      have r4 := (Lib.alloc_old w3 (.cells #[.int .i64 c, .int .i64 a] 29) w1.heap.size l3).trans r3
      exact ⟨cell_heap4 r4 0 _ rfl, cell_heap4 r4 1 _ rfl, cell_heap4 r4 2 _ rfl, cell_heap4 r4 3 _ rfl, by simp, by simp, by simp; omega, by simp, hB3.alloc hB3.size _⟩
    have HS0 := Lib.hid hS0
    clear hS0 hb3 h3 hE r2 hBc
    have t1 : (c == c) = true := by simp
    have t2 : (a == a) = true := by simp
    go_wp2_with fail
    obtain ⟨W3, hW3⟩ : ∃ W3, w3.alloc (.cells #[.int .i64 c, .int .i64 a] 29) = W3 := ⟨_, rfl⟩
    rw [hW3] at HS0 ⊢
    clear hW3
    generalize w1.heap.size = g at *
    generalize w3.heap.size = h at *
    go_region_held3 (fun w' => w'.cell? ⟨g, 0, none⟩ = some (.string t) ∧ w'.cell? ⟨g, 1, none⟩ = some (.int .i64 m) ∧ w'.cell? ⟨g, 2, none⟩ = some (.int .i64 c) ∧ w'.cell? ⟨g, 3, none⟩ = some (.int .i64 a) ∧ w'.cell? ⟨h, 0, none⟩ = some (.int .i64 c) ∧ w'.cell? ⟨h, 1, none⟩ = some (.int .i64 a) ∧ g < w'.heap.size ∧ h < w'.heap.size ∧ Below w.heap.size w w') (first | exact RdAt.keep (w := w) HS0.out ((Below.refl _ _).drew) | exact ‹RdAt w _ _ _ _ _ _ _› | exact RdAt.keep (w := w) (g := g) (h := h) (t := t) (m := m) (c := c) (a := a) ⟨‹_›, ‹_›, ‹_›, ‹_›, ‹_›, ‹_›, ‹_›, ‹_›, ‹_›⟩ ((Below.refl _ _).drew) | go_keep)
      (first | (go_at_call 5; refine (awake_rd ht hm g h t m c a _ ?_).mono ?_; (first | exact HS0.out | exact ‹RdAt w _ _ _ _ _ _ _› | exact ⟨‹_›, ‹_›, ‹_›, ‹_›, ‹_›, ‹_›, ‹_›, ‹_›, ‹_›⟩); rintro e w' ⟨rfl, hs'⟩) | (go_at_call 10; refine (fault_rd c a g h t m c a _ hs').mono ?_; rintro e w'' ⟨rfl, hs''⟩))
    go_wp2
    go_ret
    exact ⟨rfl, hs''.2.2.2.2.2.2.2.2⟩
end Go.Proofs.YtoobbmehjpninaaGreatDoor
