/- The walks of innermost, Depth and Of. -/
import Derived.Test.YtplgcegpmebejaaDoorErrorsAs
import Derived.Test.YtplgcegpmebejaaDoorSteps
namespace Go.Proofs.YtplgcegpmebejaaDoor
open Go.RowKit

/-- The innermost step's place; 0, if there is no step. -/
def inn (l : List (ByteArray × Int)) : Int := match l.getLast? with | some s => s.2 | none => 0
theorem inn_last (l : List (ByteArray × Int)) (x : Value) (h : 0 < l.length) : (stepCells x l)[(l.length - 1) * 3 + 1]? = some (.int .i64 (inn l)) := by
  induction l with
  | nil => simp at h
  | cons s l ih =>
    cases l with
    | nil => simp [stepCells, inn]
    | cons t l =>
      have := ih (by simp)
      have e : ((s :: t :: l).length - 1) * 3 + 1 = (((t :: l).length - 1) * 3 + 1) + 3 := by simp; omega
      rw [e, stepCells, List.getElem?_append_right (by simp)]
      simpa [inn] using this

theorem own_cells {w : World} {base : Nat} {e : TypeId} {size n : Nat} {v : Value} {xs : List Value} (h : w.ownsRow base e size v n xs) (hn : 0 < n) :
    ∃ g cap, v = .slice (some ⟨g, 0, none⟩) n cap ∧ n ≤ cap ∧ cap ≤ maxLen ∧ base ≤ g ∧ g < w.heap.size ∧ ∀ j u, xs[j]? = some u → w.cell? ⟨g, j, none⟩ = some u := by
  have h0 := h
  rcases h.2 with ⟨_, h2⟩ | ⟨g, cap, cur, rfl, hg, hgg, hnc, hcm, _⟩
  · omega
  · refine ⟨g, cap, rfl, hnc, hcm, hg, (Array.getElem?_eq_some_iff.1 hgg).1, fun j u hj => ?_⟩
    have := World.ownsRow.cells h0 (g := g) rfl j u hj
    rwa [show (⟨g, 0, none⟩ : Addr).add j = ⟨g, j, none⟩ by simp [Addr.add, eq_comm]] at this
theorem own_none {w : World} {base : Nat} {e : TypeId} {size : Nat} {v : Value} {xs : List Value} (h : w.ownsRow base e size v 0 xs) : ∃ r cap, v = .slice r 0 cap := by
  rcases h.2 with ⟨rfl, _⟩ | ⟨g, cap, cur, rfl, _⟩ <;> exact ⟨_, _, rfl⟩

set_option maxRecDepth 100000 in
set_option maxHeartbeats 1000000 in
theorem innermost_any (x : Value) (hx : EndV x) (l : List (ByteArray × Int)) (hl : l.length ≤ 1000) (w : World) :
    Calls Tryd.prog 22 #[wv x l] w fun e w' => e = .returned (.int .i64 (inn l)) ∧ Below w.heap.size w w' := by
  cases l with
  | nil =>
    go_enter Tryd.func22, Tryd.ntmps22
    go_wp2_with fail
    refine (steps_any x hx [] hl _).mono ?_
    rintro e w' ⟨v, rfl, hown, hb⟩
    obtain ⟨r, cap, rfl⟩ := own_none hown
    clear hown
    go_wp2
    go_ret
    exact ⟨rfl, hb⟩
  | cons s l =>
    have hin := inn_last (s :: l) x (by simp)
    go_enter Tryd.func22, Tryd.ntmps22
    go_wp2_with fail
    refine (steps_any x hx (s :: l) hl _).mono ?_
    rintro e w' ⟨v, rfl, hown, hb⟩
    obtain ⟨g, cap, rfl, hnc, hcm, hg, hgl, hc⟩ := own_cells hown (by simp)
    have c1 := hc _ _ hin
    obtain ⟨m, hm⟩ : ∃ m, l.length = m := ⟨_, rfl⟩
    simp only [List.length_cons, hm, Nat.add_sub_cancel] at c1 hnc ⊢
    simp only [List.length_cons, hm] at hl
    unfold maxLen at hcm
    clear hc hown hin hm
    go_wp2
    go_ret
    exact ⟨rfl, hb⟩

set_option maxHeartbeats 1000000 in
theorem depth_any (x : Value) (hx : EndV x) (l : List (ByteArray × Int)) (hl : l.length ≤ 1000) (w : World) :
    Calls Tryd.prog 14 #[wv x l] w fun e w' => e = .returned (.int .i64 l.length) ∧ Below w.heap.size w w' := by
  go_enter Tryd.func14, Tryd.ntmps14
  go_wp2_with fail
  refine (steps_any x hx l hl _).mono ?_
  rintro e w' ⟨v, rfl, hown, hb⟩
  have hf : ∃ r cap, v = .slice r l.length cap := by
    rcases hown.2 with ⟨rfl, h0⟩ | ⟨g, cap, cur, rfl, _⟩
    · exact ⟨_, _, by rw [h0]⟩
    · exact ⟨_, _, rfl⟩
  obtain ⟨r, cap, rfl⟩ := hf
  clear hown
  go_wp2
  go_ret
  exact ⟨rfl, hb⟩
end Go.Proofs.YtplgcegpmebejaaDoor
