/- The walk of TextSplit, where the second text is wrong. -/
import Derived.Test.YtolffmmgflbaoaaDoorLawSplitA
import Derived.Deep.RegionHeld3
namespace Go.Proofs.YtolffmmgflbaoaaDoor
open Go.RowKit

set_option maxRecDepth 100000 in
set_option maxHeartbeats 4000000 in
theorem textSplit_c (s t : ByteArray) (h1 : s.size ≤ 30000) (h2 : t.size ≤ 30000) (w : World) (u : ByteArray) (hu : Hid (s ++ ⟨#[10]⟩ ++ t = u)) (hz : u.size ≤ maxLen) (i : Nat) (hi : i ≤ 100000) (e1 : Hid (ck s = (0, 0))) (e2 : Hid (ck t = (2, i))) (e3 : Hid (ck u = (2, s.size + 1 + i))) :
    Calls Tryd.prog 6 #[.string s, .string t] w fun e w' => e = .returned (.bool true) ∧ Below w.heap.size w w' := by
  go_enter Tryd.func6, Tryd.ntmps6
  go_wp2_with fail
  refine (check_any s _ (by unfold maxLen; omega)).mono ?_
  rintro e w1 ⟨rfl, hb⟩
  rw [e1.out]
  go_wp2_with fail
  refine (check_any t _ (by unfold maxLen; omega)).mono ?_
  rintro e w2 ⟨rfl, hb2⟩
  rw [e2.out]
  go_wp2_with fail
  rw [hu.out]
  refine (check_any u _ hz).mono ?_
  rintro e w3 ⟨rfl, hb3⟩
  rw [e3.out]
  have hb4 : Below w.heap.size w w3 := (hb.trans (hb2.mono hb.size)).trans (hb3.mono (Nat.le_trans hb.size hb2.size))
  go_wp2_with fail
  refine (bad_no Three.keep _ _ (Three.start 0 0 2 i 2 (s.size + 1 + i : Nat) hb4)).mono ?_
  rintro e w4 ⟨rfl, q1, q2, q3, q4, q5, q6, q7, q8⟩
  clear hb hb2 hb3 hb4
  generalize w3.heap.size = g at *
  obtain ⟨n, hn⟩ : ∃ n, s.size + 1 + i = n := ⟨_, rfl⟩
  rw [hn] at q6
  have t1 : ((n : Int) == (i : Int) + (s.size : Int) + 1) = true := by simp; omega
  have x1 : IntKind.i64.wrap ((i : Int) + (s.size : Int)) = (i : Int) + (s.size : Int) := by rw [IntKind.wrap_i64]; omega
  have x2 : IntKind.i64.wrap ((i : Int) + (s.size : Int) + 1) = (i : Int) + (s.size : Int) + 1 := by rw [IntKind.wrap_i64]; omega
  clear hn
  go_wp2_with fail
  go_region_held3 (fun w' => w'.cell? ⟨g, 0, none⟩ = some (.int .i64 0) ∧ w'.cell? ⟨g, 1, none⟩ = some (.int .i64 0) ∧ w'.cell? ⟨g + 1, 0, none⟩ = some (.int .i64 2) ∧ w'.cell? ⟨g + 1, 1, none⟩ = some (.int .i64 i) ∧ w'.cell? ⟨g + 1 + 1, 0, none⟩ = some (.int .i64 2) ∧ w'.cell? ⟨g + 1 + 1, 1, none⟩ = some (.int .i64 n) ∧ g + 1 + 1 < w'.heap.size ∧ Below w.heap.size w w') (first | assumption | exact ⟨‹_›, ‹_›, ‹_›, ‹_›, ‹_›, ‹_›, ‹_›, Below.drew ‹_›⟩ | go_keep) (first | (go_at_call 8; refine (awake_keep (S := fun w' => w'.cell? ⟨g, 0, none⟩ = some (.int .i64 0) ∧ w'.cell? ⟨g, 1, none⟩ = some (.int .i64 0) ∧ w'.cell? ⟨g + 1, 0, none⟩ = some (.int .i64 2) ∧ w'.cell? ⟨g + 1, 1, none⟩ = some (.int .i64 i) ∧ w'.cell? ⟨g + 1 + 1, 0, none⟩ = some (.int .i64 2) ∧ w'.cell? ⟨g + 1 + 1, 1, none⟩ = some (.int .i64 n) ∧ g + 1 + 1 < w'.heap.size ∧ Below w.heap.size w w') Three.keep _ ?_).mono ?_; (first | assumption | exact ⟨‹_›, ‹_›, ‹_›, ‹_›, ‹_›, ‹_›, ‹_›, ‹_›⟩); rintro e w' ⟨rfl, hs'⟩) | (go_at_call 14; refine (bad_yes (S := fun w' => w'.cell? ⟨g, 0, none⟩ = some (.int .i64 0) ∧ w'.cell? ⟨g, 1, none⟩ = some (.int .i64 0) ∧ w'.cell? ⟨g + 1, 0, none⟩ = some (.int .i64 2) ∧ w'.cell? ⟨g + 1, 1, none⟩ = some (.int .i64 i) ∧ w'.cell? ⟨g + 1 + 1, 0, none⟩ = some (.int .i64 2) ∧ w'.cell? ⟨g + 1 + 1, 1, none⟩ = some (.int .i64 n) ∧ g + 1 + 1 < w'.heap.size ∧ Below w.heap.size w w') Three.keep _ _ ?_).mono ?_; (first | assumption | exact ⟨‹_›, ‹_›, ‹_›, ‹_›, ‹_›, ‹_›, ‹_›, ‹_›⟩); rintro e w' ⟨rfl, hs'⟩))
  go_wp2
  go_ret
  exact ⟨rfl, hs'.2.2.2.2.2.2.2⟩
end Go.Proofs.YtolffmmgflbaoaaDoor
