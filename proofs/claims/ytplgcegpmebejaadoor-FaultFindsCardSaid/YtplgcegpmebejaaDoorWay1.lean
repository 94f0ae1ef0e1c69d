/- The walks of few, end and of the document's Inner, Of, Is over a way. -/
import Derived.Test.YtplgcegpmebejaaDoorRows
import Derived.WalkKit
import Derived.WalkSpells
import Derived.WalkLawsBesides
import Derived.Deep.QuietTactic
import Derived.BigQuiet
import Derived.Lib.Hide
import Derived.Outline
namespace Go.Proofs.YtplgcegpmebejaaDoor
open Go.RowKit

set_option maxRecDepth 100000 in
set_option maxHeartbeats 1000000 in
theorem few_any (r r' : Option Addr) (n c n' c' : Nat) (e cd a : Int) (w : World) (hn : n ≤ 9223372036854775807) :
    Calls Tryd.prog 7 #[.agg #[.slice r n c, .slice r' n' c', .int .u8 e, .int .i64 cd, .int .i64 a]] w fun e w' => e = .returned (.bool (decide (n ≤ 60))) ∧ Below w.heap.size w w' := by
  go_enter Tryd.func7, Tryd.ntmps7
  go_wp2
  go_ret
  refine ⟨?_, ?_⟩
  · simp; omega
  · exact ((Below.refl _ _).alloc (Nat.le_refl _) _)

set_option maxRecDepth 100000 in
set_option maxHeartbeats 1000000 in
theorem end_1 (r r' : Option Addr) (n c n' c' : Nat) (cd a : Int) (w : World) :
    Calls Tryd.prog 23 #[.agg #[.slice r n c, .slice r' n' c', .int .i64 1, .int .i64 cd, .int .i64 a]] w fun e w' => e = .returned (.iface 35 (.agg #[.int .i64 cd, .int .i64 a])) ∧ Below w.heap.size w w' := by
  go_enter Tryd.func23, Tryd.ntmps23
  go_wp2
  go_ret
  exact ⟨rfl, ((Below.refl _ _).alloc (Nat.le_refl _) _)⟩
set_option maxRecDepth 100000 in
set_option maxHeartbeats 1000000 in
theorem end_2 (r r' : Option Addr) (n c n' c' : Nat) (cd a : Int) (w : World) :
    Calls Tryd.prog 23 #[.agg #[.slice r n c, .slice r' n' c', .int .i64 2, .int .i64 cd, .int .i64 a]] w fun e w' => e = .returned (.iface 33 (.int .i64 cd)) ∧ Below w.heap.size w w' := by
  go_enter Tryd.func23, Tryd.ntmps23
  go_wp2
  go_ret
  exact ⟨rfl, ((Below.refl _ _).alloc (Nat.le_refl _) _)⟩
set_option maxRecDepth 100000 in
set_option maxHeartbeats 1000000 in
theorem end_0 (r r' : Option Addr) (n c n' c' : Nat) (cd a : Int) (w : World) :
    Calls Tryd.prog 23 #[.agg #[.slice r n c, .slice r' n' c', .int .i64 0, .int .i64 cd, .int .i64 a]] w fun e w' => e = .returned (.iface 47 (.agg #[.string ⟨#[101, 110, 100]⟩, .int .i64 a, .nilIface])) ∧ Below w.heap.size w w' := by
  go_enter Tryd.func23, Tryd.ntmps23
  go_wp2
  go_ret
  exact ⟨rfl, ((Below.refl _ _).alloc (Nat.le_refl _) _)⟩

set_option maxRecDepth 100000 in
set_option maxHeartbeats 1000000 in
theorem inner_none (r r' : Option Addr) (c n' c' : Nat) (e cd a : Int) (w : World) :
    Calls Tryd.prog 20 #[.agg #[.slice r 0 c, .slice r' n' c', .int .i64 e, .int .i64 cd, .int .i64 a]] w fun e w' => e = .returned (.int .i64 0) ∧ Below w.heap.size w w' := by
  go_enter Tryd.func20, Tryd.ntmps20
  go_wp2
  go_ret
  exact ⟨rfl, ((Below.refl _ _).alloc (Nat.le_refl _) _)⟩
set_option maxRecDepth 100000 in
set_option maxHeartbeats 1000000 in
theorem inner_some (r : Option Addr) (g : Nat) (n c c' : Nat) (e cd a x : Int) (w : World) (hn : 0 < n) (hn1 : n ≤ 1000) (hg : g < w.heap.size) (hx : w.cell? ⟨g, n - 1, none⟩ = some (.int .i64 x)) :
    Calls Tryd.prog 20 #[.agg #[.slice r n c, .slice (some ⟨g, 0, none⟩) n c', .int .i64 e, .int .i64 cd, .int .i64 a]] w fun e w' => e = .returned (.int .i64 x) ∧ Below w.heap.size w w' := by
  have k1 : ((n : Int) == 0) = false := by simp; omega
  go_enter Tryd.func20, Tryd.ntmps20
  go_wp2
  go_ret
  exact ⟨rfl, ((Below.refl _ _).alloc (Nat.le_refl _) _)⟩

set_option maxRecDepth 100000 in
set_option maxHeartbeats 1000000 in
theorem refIs_any (r r' : Option Addr) (n c n' c' : Nat) (e cd a m : Int) (w : World) (he : e = 0 ∨ e = 1 ∨ e = 2) :
    Calls Tryd.prog 16 #[.agg #[.slice r n c, .slice r' n' c', .int .i64 e, .int .i64 cd, .int .i64 a], .int .i64 m] w fun x w' => x = .returned (.bool (decide (0 < e) && (cd == m))) ∧ Below w.heap.size w w' := by
  rcases he with rfl | rfl | rfl
  all_goals
    go_enter Tryd.func16, Tryd.ntmps16
    go_wp2
    go_ret
    exact ⟨by simp, ((Below.refl _ _).alloc (Nat.le_refl _) _)⟩
end Go.Proofs.YtplgcegpmebejaaDoor
