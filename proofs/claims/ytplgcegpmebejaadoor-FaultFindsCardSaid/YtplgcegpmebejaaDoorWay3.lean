/- The walk of the document's Of over a way. -/
import Derived.Test.YtplgcegpmebejaaDoorWay2g
namespace Go.Proofs.YtplgcegpmebejaaDoor
open Go.RowKit

set_option maxRecDepth 100000 in
set_option maxHeartbeats 4000000 in
theorem refOf_1 (r r' : Option Addr) (n c n' c' : Nat) (cd a : Int) (w : World) :
    Calls Tryd.prog 10 #[.agg #[.slice r n c, .slice r' n' c', .int .i64 1, .int .i64 cd, .int .i64 a]] w fun e w' => e = .returned (.tuple #[.int .i64 cd, .int .i64 a]) ∧ Below w.heap.size w w' := by
  go_enter Tryd.func10, Tryd.ntmps10
  go_wp2_with fail
  go_quiet (fail)
  go_wp2
  go_ret2
  exact ⟨rfl, bel_drewN ((Below.refl _ _).alloc (Nat.le_refl _) _) _⟩

/-- What Inner answers of a way, with its row of places in memory. -/
theorem inner_any (r r' : Option Addr) (g h c c' : Nat) (n : Nat) (e cd a : Int) (L : List (ByteArray × Int)) (hL : L.length = n) (hr : n = 0 ∨ r = some ⟨g, 0, none⟩ ∧ r' = some ⟨h, 0, none⟩) (hn1 : n ≤ 1000) (w : World) (hR : 0 < n → RowsAt g h L w) :
    Calls Tryd.prog 20 #[.agg #[.slice r n c, .slice r' n c', .int .i64 e, .int .i64 cd, .int .i64 a]] w fun e w' => e = .returned (.int .i64 (inn L)) ∧ Below w.heap.size w w' := by
  by_cases h0 : n = 0
  · subst h0
    obtain rfl := List.eq_nil_of_length_eq_zero hL
    exact inner_none r r' c 0 c' e cd a w
  · obtain ⟨rfl, rfl⟩ := hr.resolve_left h0
    obtain ⟨h1, h2, h3⟩ := hR (by omega)
    have hl : L[n - 1]? = some (L[n - 1]'(by omega)) := List.getElem?_eq_getElem (by omega)
    have hx := (h3 _ _ hl).2
    have hi : inn L = (L[n - 1]'(by omega)).2 := by
      have : L.getLast? = some (L[n - 1]'(by omega)) := by
        rw [List.getLast?_eq_getElem?, ← hl]; congr 1; omega
      unfold inn; rw [this]
    rw [hi]
    exact inner_some _ h n c c' e cd a _ w (by omega) hn1 h2 hx

/-- A way's box in memory, and all that lay below it. -/
def BoxAt (w : World) (b : Nat) (v0 v1 : Value) (E cd a : Int) (w' : World) : Prop := w'.cell? ⟨b, 0, none⟩ = some v0 ∧ w'.cell? ⟨b, 1, none⟩ = some v1 ∧ w'.cell? ⟨b, 2, none⟩ = some (.int .i64 E) ∧ w'.cell? ⟨b, 3, none⟩ = some (.int .i64 cd) ∧ w'.cell? ⟨b, 4, none⟩ = some (.int .i64 a) ∧ b < w'.heap.size ∧ Below w.heap.size w w'
theorem BoxAt.keep {w : World} {b : Nat} {v0 v1 : Value} {E cd a : Int} {w' w'' : World} (h : BoxAt w b v0 v1 E cd a w') (hb : Below w'.heap.size w' w'') : BoxAt w b v0 v1 E cd a w'' := by
  obtain ⟨h0, h1, h2, h3, h4, h5, h6⟩ := h
  have := hb.size
  refine ⟨?_, ?_, ?_, ?_, ?_, by omega, h6.trans (hb.mono h6.size)⟩
  · rw [hb.cell (p := ⟨b, 0, none⟩) h5]; exact h0
  · rw [hb.cell (p := ⟨b, 1, none⟩) h5]; exact h1
  · rw [hb.cell (p := ⟨b, 2, none⟩) h5]; exact h2
  · rw [hb.cell (p := ⟨b, 3, none⟩) h5]; exact h3
  · rw [hb.cell (p := ⟨b, 4, none⟩) h5]; exact h4
theorem BoxAt.start (w : World) (v0 v1 : Value) (E cd a : Int) : BoxAt w w.heap.size v0 v1 E cd a (w.alloc (.cells #[v0, v1, .int .i64 E, .int .i64 cd, .int .i64 a] 29)) :=
  ⟨by simp, by simp, by simp, by simp, by simp, by simp, (Below.refl _ _).alloc (Nat.le_refl _) _⟩
theorem inner_keep (r r' : Option Addr) (g h c c' : Nat) (n : Nat) (e cd a : Int) (L : List (ByteArray × Int)) (hL : L.length = n) (hr : n = 0 ∨ r = some ⟨g, 0, none⟩ ∧ r' = some ⟨h, 0, none⟩) (hn1 : n ≤ 1000) (w : World) (hR : 0 < n → RowsAt g h L w) (b : Nat) (v0 v1 : Value) (W : World) (hS : BoxAt w b v0 v1 e cd a W) :
    Calls Tryd.prog 20 #[.agg #[.slice r n c, .slice r' n c', .int .i64 e, .int .i64 cd, .int .i64 a]] W fun e' w' => e' = .returned (.int .i64 (inn L)) ∧ BoxAt w b v0 v1 e cd a w' :=
  (inner_any r r' g h c c' n e cd a L hL hr hn1 W (fun hp => (hR hp).keep hS.2.2.2.2.2.2)).mono fun _ _ ⟨h1, h2⟩ => ⟨h1, hS.keep h2⟩

set_option maxRecDepth 100000 in
set_option maxHeartbeats 4000000 in
theorem refOf_2 (r r' : Option Addr) (g h c c' : Nat) (n : Nat) (cd a : Int) (L : List (ByteArray × Int)) (hL : L.length = n) (hr : n = 0 ∨ r = some ⟨g, 0, none⟩ ∧ r' = some ⟨h, 0, none⟩) (hn1 : n ≤ 1000) (w : World) (hR : 0 < n → RowsAt g h L w) :
    Calls Tryd.prog 10 #[.agg #[.slice r n c, .slice r' n c', .int .i64 2, .int .i64 cd, .int .i64 a]] w fun e w' => e = .returned (.tuple #[.int .i64 cd, .int .i64 (inn L)]) ∧ Below w.heap.size w w' := by
  have HR := Lib.hid hR
  have HL := Lib.hid hL
  have HRR := Lib.hid hr
  have hS0 : BoxAt w w.heap.size (.slice r n c) (.slice r' n c') 2 cd a (w.alloc (.cells #[.slice r n c, .slice r' n c', .int .i64 2, .int .i64 cd, .int .i64 a] 29)) := BoxAt.start w _ _ _ _ _
  have HS0 := Lib.hid hS0
  clear hR hL hr hS0
  go_enter Tryd.func10, Tryd.ntmps10
  go_wp2_with fail
  go_region_held3 (fun w' => w'.cell? ⟨w.heap.size, 0, none⟩ = some (.slice r n c) ∧ w'.cell? ⟨w.heap.size, 1, none⟩ = some (.slice r' n c') ∧ w'.cell? ⟨w.heap.size, 2, none⟩ = some (.int .i64 2) ∧ w'.cell? ⟨w.heap.size, 3, none⟩ = some (.int .i64 cd) ∧ w'.cell? ⟨w.heap.size, 4, none⟩ = some (.int .i64 a) ∧ w.heap.size < w'.heap.size ∧ Below w.heap.size w w') (first | exact BoxAt.keep (w := w) HS0.out ((Below.refl _ _).drew) | exact ‹BoxAt w _ _ _ _ _ _ _› | exact BoxAt.keep (w := w) (b := w.heap.size) (v0 := .slice r n c) (v1 := .slice r' n c') (E := 2) (cd := cd) (a := a) ⟨‹_›, ‹_›, ‹_›, ‹_›, ‹_›, ‹_›, ‹_›⟩ ((Below.refl _ _).drew) | go_keep)
    (first | (go_at_call 20; refine (inner_keep r r' g h c c' n 2 cd a L HL.out HRR.out hn1 w HR.out w.heap.size (.slice r n c) (.slice r' n c') _ ?_).mono ?_; (first | exact ‹BoxAt w _ _ _ _ _ _ _› | exact ⟨‹_›, ‹_›, ‹_›, ‹_›, ‹_›, ‹_›, ‹_›⟩); rintro e w' ⟨rfl, hs'⟩))
  all_goals
    go_wp2
    go_ret2
    first
      | exact ⟨rfl, ‹Below w.heap.size w _›⟩
      | exact ⟨rfl, hs'.2.2.2.2.2.2⟩

set_option maxRecDepth 100000 in
set_option maxHeartbeats 4000000 in
theorem refOf_0 (r r' : Option Addr) (g h c c' : Nat) (n : Nat) (cd a : Int) (L : List (ByteArray × Int)) (hL : L.length = n) (hr : n = 0 ∨ r = some ⟨g, 0, none⟩ ∧ r' = some ⟨h, 0, none⟩) (hn1 : n ≤ 1000) (w : World) (hR : 0 < n → RowsAt g h L w) :
    Calls Tryd.prog 10 #[.agg #[.slice r n c, .slice r' n c', .int .i64 0, .int .i64 cd, .int .i64 a]] w fun e w' => e = .returned (.tuple #[.int .i64 21, .int .i64 (inn L)]) ∧ Below w.heap.size w w' := by
  have HR := Lib.hid hR
  have HL := Lib.hid hL
  have HRR := Lib.hid hr
  clear hR hL hr
  go_enter Tryd.func10, Tryd.ntmps10
  go_wp2_with fail
  have hB : Below w.heap.size w (w.alloc (.cells #[.slice r n c, .slice r' n c', .int .i64 0, .int .i64 cd, .int .i64 a] 29)) := (Below.refl _ _).alloc (Nat.le_refl _) _
  refine (inner_any r r' g h c c' n 0 cd a L HL.out HRR.out hn1 _ (fun hp => (HR.out hp).keep hB)).mono ?_
  rintro e w1 ⟨rfl, hb⟩
  have hb2 := hB.trans (hb.mono hB.size)
  clear hb hB
  go_wp2
  go_ret2
  exact ⟨rfl, hb2⟩
end Go.Proofs.YtplgcegpmebejaaDoor
