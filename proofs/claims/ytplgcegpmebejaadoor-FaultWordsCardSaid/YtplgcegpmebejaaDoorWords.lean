/- The walks of Words and Under. -/
import Derived.Test.YtplgcegpmebejaaDoorOfAll
namespace Go.Proofs.YtplgcegpmebejaaDoor
open Go.RowKit

theorem own_mono {w : World} {b b' : Nat} {e : TypeId} {size n : Nat} {v : Value} {xs : List Value} (h : w.ownsRow b e size v n xs) (hb : b' ≤ b) : w.ownsRow b' e size v n xs := by
  refine ⟨h.1, ?_⟩
  rcases h.2 with h | ⟨g, cap, cur, rfl, hg, rest⟩
  · exact .inl h
  · exact .inr ⟨g, cap, cur, rfl, by omega, rest⟩
theorem step_at (x : Value) (l : List (ByteArray × Int)) (k : Nat) (s : ByteArray × Int) (l' : List (ByteArray × Int)) (h : l.drop k = s :: l') :
    (stepCells x l)[k * 3]? = some (.string s.1) ∧ (stepCells x l)[k * 3 + 1]? = some (.int .i64 s.2) ∧ (stepCells x l)[k * 3 + 2]? = some (wv x l') := by
  induction k generalizing l with
  | zero => simp at h; subst h; simp [stepCells]
  | succ k ih =>
    cases l with
    | nil => simp at h
    | cons t l =>
      obtain ⟨h1, h2, h3⟩ := ih l (by simpa using h)
      simp only [stepCells]
      refine ⟨?_, ?_, ?_⟩
      · rw [List.getElem?_append_right (by simp; omega)]; simpa [Nat.add_mul] using h1
      · rw [show (k + 1) * 3 + 1 = (k * 3 + 1) + 3 by omega, List.getElem?_append_right (by simp)]; simpa using h2
      · rw [show (k + 1) * 3 + 2 = (k * 3 + 2) + 3 by omega, List.getElem?_append_right (by simp)]; simpa using h3
def wordsOf (l : List (ByteArray × Int)) : List Value := l.map fun s => .string s.1

theorem infoStr : (Tryd.prog.info? 9).map (fun i => (i.zero, i.size, i.bytes)) = some (some (.string ⟨#[]⟩), 1, 16) := by kernel_rfl

set_option maxHeartbeats 1000000 in
theorem words_nil (w : World) :
    Calls Tryd.prog 13 #[.nilIface] w fun e w' => ∃ r cap, e = .returned (.slice r 0 cap) ∧ Below w.heap.size w w' := by
  go_enter Tryd.func13, Tryd.ntmps13
  go_wp2_with fail
  refine (steps_any .nilIface end_nil [] (by simp) _).mono ?_
  rintro e w' ⟨v, rfl, hown, hb⟩
  obtain ⟨r, cap, rfl⟩ := own_none hown
  clear hown
  go_wp2
  refine wp_loop_rounds 1 ?_
  rw [rounds_succ]
  go_wp2
  go_ret
  exact ⟨_, _, rfl, hb⟩

set_option maxRecDepth 100000 in
set_option maxHeartbeats 4000000 in
theorem words_any (x : Value) (hx : EndV x) (l : List (ByteArray × Int)) (hl : l.length ≤ 1000) (hne : 0 < l.length) (w : World) :
    Calls Tryd.prog 13 #[wv x l] w fun e w' => ∃ v, e = .returned v ∧ w'.ownsRow w.heap.size 9 1 v l.length (wordsOf l) ∧ Below w.heap.size w w' := by
  obtain ⟨i0, hi, hz0, hz1, hz2⟩ := info_parts infoStr
  have hmx : (1000 : Nat) ≤ maxLen := by decide
  go_enter Tryd.func13, Tryd.ntmps13
  go_wp2_with fail
  refine (steps_any x hx l hl _).mono ?_
  rintro e w1 ⟨v, rfl, hown, hb⟩
  obtain ⟨g, cap, rfl, hnc, hcm, hg, hgl, hc⟩ := own_cells hown hne
  have HC := Lib.hid hc
  have hsz := hb.size
  unfold maxLen at hcm
  clear hc hown
  go_wp2
  go_loopw [3, 9] (fun v i wr => ∃ k : Nat, i = .int .i64 k ∧ k ≤ l.length ∧ wr.ownsRow w1.heap.size 9 1 v k ((wordsOf l).take k) ∧ Below w1.heap.size w1 wr) (fun _ i _ => l.length - (intOf i).toNat)
  case atStart => exact ⟨0, rfl, by omega, World.ownsRow_nil _ _ _ _, Below.refl _ _⟩
  case round =>
    obtain ⟨k, rfl, hk, hown, hbr⟩ := hrel
    have hzr := hbr.size
    by_cases hlt : k < l.length
    · obtain ⟨s, l', hd⟩ : ∃ s l', l.drop k = s :: l' := ⟨_, _, List.drop_eq_getElem_cons hlt⟩
      obtain ⟨q0, q1, q2⟩ := step_at x l k s l' hd
      have c0 : wr.cell? ⟨g, k * 3, none⟩ = some (.string s.1) := by rw [hbr.cell (p := ⟨g, k * 3, none⟩) hgl]; exact HC.out _ _ q0
      have c1 : wr.cell? ⟨g, k * 3 + 1, none⟩ = some (.int .i64 s.2) := by rw [hbr.cell (p := ⟨g, k * 3 + 1, none⟩) hgl]; exact HC.out _ _ q1
      have c2 : wr.cell? ⟨g, k * 3 + 2, none⟩ = some (wv x l') := by rw [hbr.cell (p := ⟨g, k * 3 + 2, none⟩) hgl]; exact HC.out _ _ q2
      have hw : (wordsOf l).take (k + 1) = (wordsOf l).take k ++ [.string s.1] := by
        have hlk : k < (wordsOf l).length := by simpa [wordsOf] using hlt
        rw [List.take_succ_eq_append_getElem hlk]
        have : l[k] = s := by have := List.drop_eq_getElem_cons hlt; rw [hd] at this; exact (List.cons.inj this).1.symm
        simp [wordsOf, this]
      have HW := Lib.hid hw
      have hform := wv_form x hx l'
      clear q0 q1 q2 hd hw
      generalize wv x l' = E2 at c2 hform
      rcases hform with ⟨u, v, rfl⟩ | rfl
      all_goals
        go_wp2_with (at_builtin; refine wpList_append_own _ rfl _ _ 22 rfl w1.heap.size 9 i0 (.string ⟨#[]⟩) 1 16 Tryd.underlying22 hi hz0 hz1 hz2 rfl (by decide) _ _ _ rfl ((hown.alloc _).alloc _) ⟨wr.heap.size + 1, 0, none⟩ 1 1 [.string s.1] rfl rfl ?c1 ?c2 ?c3 ?c4 ?c5 ?_)
        case c1 =>
          intro j y hj
          match j, hj with
          | 0, hj => cases hj; simp [Addr.add]
          | j + 1, hj => simp at hj
        case c2 => intro y hy; simp at hy; subst hy; rfl
        case c3 => unfold maxLen at *; omega
        case c4 => omega
        case c5 => simp; omega
        intro v' w3 hown3 hgrow _
        have hb3 := below_of_grown ((hbr.alloc hzr _).alloc (by simp; omega) _) hgrow (by simp; omega) ((hown.alloc _).alloc _)
        clear hgrow hown
        go_wp2
        go_roundw
        case rel => exact ⟨k + 1, by go_num, by omega, by rw [HW.out]; exact hown3, hb3⟩
        case measure => simp [intOf]; omega
    · have hkl : k = l.length := by omega
      have ht : (wordsOf l).take k = wordsOf l := List.take_of_length_le (by simp [wordsOf]; omega)
      rw [ht, hkl] at hown
      have HO := Lib.hid hown
      clear ht hown hkl
      go_wp2
      go_ret
      exact ⟨_, rfl, own_mono HO.out hsz, hb.trans (hbr.mono hsz)⟩

set_option maxHeartbeats 400000 in
theorem under_any (word : ByteArray) (a : Int) (u : TypeId) (v : Value) (w : World) :
    Calls Tryd.prog 17 #[.string word, .int .i64 a, .iface u v] w fun e w' => e = .returned (.iface 47 (.agg #[.string word, .int .i64 a, .iface u v])) ∧ w = w' := by
  go_enter Tryd.func17, Tryd.ntmps17
  go_wp2
  go_ret
  exact ⟨rfl, rfl⟩
set_option maxHeartbeats 400000 in
theorem under_nil (word : ByteArray) (a : Int) (w : World) :
    Calls Tryd.prog 17 #[.string word, .int .i64 a, .nilIface] w fun e w' => e = .returned .nilIface ∧ w = w' := by
  go_enter Tryd.func17, Tryd.ntmps17
  go_wp2
  go_ret
  exact ⟨rfl, rfl⟩
end Go.Proofs.YtplgcegpmebejaaDoor
