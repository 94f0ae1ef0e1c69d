/- The walk of FaultNone. -/
import Derived.Test.YtcglhcldjghamaaDoorAwake1
namespace Go.Proofs.YtcglhcldjghamaaDoor
open Go.RowKit Go.Extern.Stop Go.Stop Go.Extern

set_option maxHeartbeats 400000 in
theorem stepError_any (word : ByteArray) (a : Int) (E : Value) (hE : ∃ u v, E = .iface u v) (w : World) :
    Calls Tryd.prog 18 #[.agg #[.string word, .int .i64 a, E]] w fun e w' => e = .returned (.string word) ∧ Below w.heap.size w w' := by
  obtain ⟨u, v, rfl⟩ := hE
  go_enter Tryd.func18, Tryd.ntmps18
  go_wp2
  go_ret
  exact ⟨rfl, (Below.refl _ _).alloc (Nat.le_refl _) _⟩
set_option maxHeartbeats 400000 in
theorem stepUnwrap_any (word : ByteArray) (a : Int) (u : TypeId) (v : Value) (w : World) :
    Calls Tryd.prog 19 #[.agg #[.string word, .int .i64 a, .iface u v]] w fun e w' => e = .returned (.iface u v) ∧ Below w.heap.size w w' := by
  go_enter Tryd.func19, Tryd.ntmps19
  go_wp2
  go_ret
  exact ⟨rfl, (Below.refl _ _).alloc (Nat.le_refl _) _⟩

/-- A step in the block b. -/
def StepIn (b : Nat) (word : ByteArray) (a n : Int) (w : World) : Prop :=
  (w.cell? ⟨b, 0, none⟩ = some (.string word) ∧ w.cell? ⟨b, 1, none⟩ = some (.int .i64 a) ∧ w.cell? ⟨b, 2, none⟩ = some (.iface 33 (.int .i64 n))) ∧ b < w.heap.size
theorem StepIn.keep {b : Nat} {word : ByteArray} {a n : Int} {w w' : World} (h : StepIn b word a n w) (hb : Below w.heap.size w w') : StepIn b word a n w' := by
  obtain ⟨⟨h1, h2, h3⟩, h4⟩ := h
  have := hb.size
  refine ⟨⟨?_, ?_, ?_⟩, by omega⟩
  · rw [hb.cell (p := ⟨b, 0, none⟩) h4]; exact h1
  · rw [hb.cell (p := ⟨b, 1, none⟩) h4]; exact h2
  · rw [hb.cell (p := ⟨b, 2, none⟩) h4]; exact h3
theorem StepIn.start (word : ByteArray) (a n : Int) (w : World) : StepIn w.heap.size word a n (w.alloc (.cells #[.string word, .int .i64 a, .iface 33 (.int .i64 n)] 47)) :=
  ⟨⟨by simp, by simp, by simp⟩, by simp⟩

set_option maxRecDepth 100000 in
set_option maxHeartbeats 4000000 in
theorem faultNone_walk (word : ByteArray) (a n : Int) (_hw : word.size ≤ maxLen) (_ha : (Lit.int .i64 a).wf = true) (_hn : (Lit.int .i64 n).wf = true) (w : World) (hg : ErrVar w) :
    Calls Tryd.prog 6 #[.string word, .int .i64 a, .int .i64 n] w fun e w' => e = .returned (.bool true) ∧ Below w.heap.size w w' := by
  have HG := Lib.hid hg
  clear hg
  have t1 : (word.data.toList == word.data.toList) = true := by simp
  have t2 : ((n : Int) == n) = true := by simp
  have t3 : ((a : Int) == a) = true := by simp
  go_enter Tryd.func6, Tryd.ntmps6
  go_wp2_with fail
  refine (under_nil _ _ _).mono ?_
  rintro e w' ⟨rfl, rfl⟩
  go_wp2_with fail
  refine (stepError_any _ _ _ ⟨_, _, rfl⟩ _).mono ?_
  rintro e w1 ⟨rfl, hb1⟩
  have s1 := (StepIn.start word a n w).keep hb1
  have hB1 : Below w.heap.size w w1 := ((Below.refl _ _).alloc (Nat.le_refl _) _).trans (hb1.mono (by simp))
  have g1 := Lib.hid (HG.out.below hB1 HG.out.pos)
  obtain ⟨⟨c1, c2, c3⟩, hs1⟩ := id s1
  have S1 := Lib.hid s1
  clear s1 hb1
  go_wp2_with fail
  refine (stepUnwrap_any _ _ _ _ _).mono ?_
  rintro e w2 ⟨rfl, hb2⟩
  have s2 := S1.out.keep hb2
  have hB2 : Below w.heap.size w w2 := hB1.trans (hb2.mono hB1.size)
  have g2 := Lib.hid (HG.out.below hB2 HG.out.pos)
  clear c1 c2 c3 hs1 hb2 hB1
  go_wp2_with fail
  refine (of_num n [] (by simp) _ g2.out).mono ?_
  rintro e w3 ⟨rfl, hb3⟩
  rw [show inn [] = 0 from rfl]
  have s3 := s2.keep hb3
  have hB3 : Below w.heap.size w w3 := hB2.trans (hb3.mono hB2.size)
  have g3 := Lib.hid (HG.out.below hB3 HG.out.pos)
  obtain ⟨⟨c1, c2, c3⟩, hs1⟩ := id s3
  have S3 := Lib.hid s3
  clear s3 s2 hb3 hB2
  go_wp2_with fail
  refine (of_num n [(word, a)] (by simp) _ g3.out).mono ?_
  rintro e w4 ⟨rfl, hb4⟩
  rw [show inn [(word, a)] = a from rfl]
  have hB4 : Below w.heap.size w w4 := hB3.trans (hb4.mono hB3.size)
  have g4 := Lib.hid (HG.out.below hB4 HG.out.pos)
  clear c1 c2 c3 hs1 hb4 hB3
  go_wp2_with fail
  refine (awake_any _ g4.out).mono ?_
  rintro e w5 ⟨rfl, hb5⟩
  have hB5 : Below w.heap.size w w5 := hB4.trans (hb5.mono hB4.size)
  clear hb5 hB4
  go_wp2_with fail
  refine (of_nil _).mono ?_
  rintro e w6 ⟨rfl, hb6⟩
  have hB6 : Below w.heap.size w w6 := hB5.trans (hb6.mono hB5.size)
  clear hb6 hB5
  go_wp2_with fail
  refine (words_nil _).mono ?_
  rintro e w7 ⟨r, cap, rfl, hb7⟩
  have hB7 : Below w.heap.size w w7 := hB6.trans (hb7.mono hB6.size)
  clear hb7 hB6
  go_wp2_with fail
  refine (depth_any .nilIface end_nil [] (by simp) _).mono ?_
  rintro e w8 ⟨rfl, hb8⟩
  rw [show (((([] : List (ByteArray × Int)).length : Nat)) : Int) = 0 from rfl]
  have hB8 : Below w.heap.size w w8 := hB7.trans (hb8.mono hB7.size)
  clear hb8 hB7
  go_wp2_with fail
  refine (faultIs_nil n _).mono ?_
  rintro e w9 ⟨rfl, hb9⟩
  have hB9 : Below w.heap.size w w9 := hB8.trans (hb9.mono hB8.size)
  go_wp2
  go_ret
  exact ⟨rfl, hB9⟩
end Go.Proofs.YtcglhcldjghamaaDoor
