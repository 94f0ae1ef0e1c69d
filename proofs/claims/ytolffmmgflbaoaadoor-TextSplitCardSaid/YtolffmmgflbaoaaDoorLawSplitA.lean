/- The walk of TextSplit. -/
import Derived.Test.YtolffmmgflbaoaaDoorAwake
import Derived.Test.YtolffmmgflbaoaaDoorSplit
import Derived.Deep.RegionHeld3
namespace Go.Proofs.YtolffmmgflbaoaaDoor
open Go.RowKit

theorem awake_keep {S : World → Prop} (hS : ∀ a b : World, S a → Below a.heap.size a b → S b) (w : World) (h : S w) :
    Calls Tryd.prog 8 #[] w fun e w' => e = .returned (.bool true) ∧ S w' :=
  (awake_any w).mono fun _ _ ⟨h1, h2⟩ => ⟨h1, hS _ _ h h2⟩
theorem bad_keep {S : World → Prop} (hS : ∀ a b : World, S a → Below a.heap.size a b → S b) (x y : Int) (w : World) (h : S w) :
    Calls Tryd.prog 14 #[.agg #[.int .i64 x, .int .i64 y]] w fun e w' => e = .returned (.bool (x != 0)) ∧ S w' :=
  (bad_any x y w).mono fun _ _ ⟨h1, h2⟩ => ⟨h1, hS _ _ h h2⟩

theorem bad_no {S : World → Prop} (hS : ∀ a b : World, S a → Below a.heap.size a b → S b) (y : Int) (w : World) (h : S w) :
    Calls Tryd.prog 14 #[.agg #[.int .i64 0, .int .i64 y]] w fun e w' => e = .returned (.bool false) ∧ S w' := bad_keep hS 0 y w h
theorem bad_yes {S : World → Prop} (hS : ∀ a b : World, S a → Below a.heap.size a b → S b) (y : Int) (w : World) (h : S w) :
    Calls Tryd.prog 14 #[.agg #[.int .i64 2, .int .i64 y]] w fun e w' => e = .returned (.bool true) ∧ S w' := bad_keep hS 2 y w h

set_option maxRecDepth 100000 in
set_option maxHeartbeats 1000000 in
theorem textSplit_long (s t : ByteArray) (hs : s.size ≤ maxLen) (ht : t.size ≤ maxLen) (h : 30000 < s.size ∨ s.size ≤ 30000 ∧ 30000 < t.size) (w : World) :
    Calls Tryd.prog 6 #[.string s, .string t] w fun e w' => e = .returned (.bool true) ∧ Below w.heap.size w w' := by
  unfold maxLen at hs ht
  rcases h with h | ⟨h, h'⟩
  all_goals
    go_enter Tryd.func6, Tryd.ntmps6
    go_wp2_with fail
    refine (awake_any _).mono ?_
    rintro e w1 ⟨rfl, hb⟩
    go_wp2
    go_ret
    exact ⟨rfl, hb⟩

/-- What is known of the three faults' cells, in blocks g, g + 1, g + 2, and of what was there before. -/
def Three (w : World) (g : Nat) (a b c d e f : Int) (w' : World) : Prop :=
  w'.cell? ⟨g, 0, none⟩ = some (.int .i64 a) ∧ w'.cell? ⟨g, 1, none⟩ = some (.int .i64 b) ∧ w'.cell? ⟨g + 1, 0, none⟩ = some (.int .i64 c) ∧ w'.cell? ⟨g + 1, 1, none⟩ = some (.int .i64 d) ∧ w'.cell? ⟨g + 1 + 1, 0, none⟩ = some (.int .i64 e) ∧ w'.cell? ⟨g + 1 + 1, 1, none⟩ = some (.int .i64 f) ∧ g + 1 + 1 < w'.heap.size ∧ Below w.heap.size w w'
theorem Three.keep {w : World} {g : Nat} {a b c d e f : Int} (x y : World) (h : Three w g a b c d e f x) (hb : Below x.heap.size x y) : Three w g a b c d e f y := by
  obtain ⟨h1, h2, h3, h4, h5, h6, h7, h8⟩ := h
  have hz := hb.size
  refine ⟨?_, ?_, ?_, ?_, ?_, ?_, by omega, h8.trans (hb.mono h8.size)⟩
  · rw [hb.cell (p := ⟨g, 0, none⟩) (by show g < _; omega)]; exact h1
  · rw [hb.cell (p := ⟨g, 1, none⟩) (by show g < _; omega)]; exact h2
  · rw [hb.cell (p := ⟨g + 1, 0, none⟩) (by show g + 1 < _; omega)]; exact h3
  · rw [hb.cell (p := ⟨g + 1, 1, none⟩) (by show g + 1 < _; omega)]; exact h4
  · rw [hb.cell (p := ⟨g + 1 + 1, 0, none⟩) (by show g + 1 + 1 < _; omega)]; exact h5
  · rw [hb.cell (p := ⟨g + 1 + 1, 1, none⟩) (by show g + 1 + 1 < _; omega)]; exact h6
theorem Three.start {w w3 : World} (a b c d e f : Int) (h : Below w.heap.size w w3) :
    Three w w3.heap.size a b c d e f (((w3.alloc (.cells #[.int .i64 a, .int .i64 b] 27)).alloc (.cells #[.int .i64 c, .int .i64 d] 27)).alloc (.cells #[.int .i64 e, .int .i64 f] 27)) := by
  unfold Three
  have hsz := h.size
  refine ⟨?_, ?_, ?_, ?_, ?_, ?_, ?_, ?_⟩
  · rw [World.cell?_alloc_lt _ _ _ (by simp; omega), World.cell?_alloc_lt _ _ _ (by simp), World.cell?_alloc_at _ _ _ _ (by simp)]; rfl
  · rw [World.cell?_alloc_lt _ _ _ (by simp; omega), World.cell?_alloc_lt _ _ _ (by simp), World.cell?_alloc_at _ _ _ _ (by simp)]; rfl
  · rw [World.cell?_alloc_lt _ _ _ (by simp), World.cell?_alloc_at _ _ _ _ (by simp)]; rfl
  · rw [World.cell?_alloc_lt _ _ _ (by simp), World.cell?_alloc_at _ _ _ _ (by simp)]; rfl
  · rw [World.cell?_alloc_at _ _ _ _ (by simp)]; rfl
  · rw [World.cell?_alloc_at _ _ _ _ (by simp)]; rfl
  · simp
  have := h.size
  exact ((h.alloc this _).alloc (by simp; omega) _).alloc (by simp; omega) _

set_option maxRecDepth 100000 in
set_option maxHeartbeats 1000000 in
theorem textSplit_a (s t : ByteArray) (h1 : s.size ≤ 30000) (h2 : t.size ≤ 30000) (w : World) (u : ByteArray) (hu : Hid (s ++ ⟨#[10]⟩ ++ t = u)) (hz : u.size ≤ maxLen) (i : Nat) (e1 : Hid (ck s = (2, i))) (e3 : Hid (ck u = (2, i))) :
    Calls Tryd.prog 6 #[.string s, .string t] w fun e w' => e = .returned (.bool true) ∧ Below w.heap.size w w' := by
  obtain ⟨ct, hct⟩ : ∃ ct, ck t = ct := ⟨_, rfl⟩
  have HT := Lib.hid hct
  clear hct
  go_enter Tryd.func6, Tryd.ntmps6
  go_wp2_with fail
  refine (check_any s _ (by unfold maxLen; omega)).mono ?_
  rintro e w1 ⟨rfl, hb⟩
  rw [e1.out]
  go_wp2_with fail
  refine (check_any t _ (by unfold maxLen; omega)).mono ?_
  rintro e w2 ⟨rfl, hb2⟩
  rw [HT.out]
  go_wp2_with fail
  rw [hu.out]
  refine (check_any u _ hz).mono ?_
  rintro e w3 ⟨rfl, hb3⟩
  rw [e3.out]
  have hb4 : Below w.heap.size w w3 := (hb.trans (hb2.mono hb.size)).trans (hb3.mono (Nat.le_trans hb.size hb2.size))
  go_wp2_with fail
  refine (bad_keep Three.keep _ _ _ (Three.start 2 i ct.1 ct.2 2 i hb4)).mono ?_
  rintro e w4 ⟨rfl, h4⟩
  generalize w3.heap.size = g at *
  go_wp2_with fail
  refine (awake_keep Three.keep _ h4).mono ?_
  rintro e w5 ⟨rfl, q1, q2, q3, q4, q5, q6, q7, q8⟩
  have t1 : ((i : Int) == i) = true := by simp
  go_wp2
  go_ret
  exact ⟨rfl, q8⟩

end Go.Proofs.YtolffmmgflbaoaaDoor
