/- The walks of the program's row and header (layer 6). -/
import Derived.Test.YtcmdpablbadloaaDoorLit
import Derived.Test.YtcmdpablbadloaaDoorShelf
import Derived.Test.YtcmdpablbadloaaDoorAid
import Derived.Deep.RegionHeld3
import Derived.WalkSpells
import Derived.Lib.Hide
namespace Go.Proofs.YtcmdpablbadloaaDoor
open Go.RowKit

set_option maxRecDepth 100000 in
set_option maxHeartbeats 1000000 in
theorem from_any (p k : Nat) (T : ByteArray) (w : World) (hp : p ≤ 1000000) (hk : k ≤ 1000000) :
    Calls Tryd.prog 36 #[.agg #[.int .i64 p, .int .i64 k, .string T]] w fun e w' => e = .returned (.int .i64 ((p : Int) + (k : Int))) ∧ Below w.heap.size w w' := by
  go_enter Tryd.func36, Tryd.ntmps36
  go_wp2
  go_ret
  exact ⟨rfl, (Below.refl _ _).alloc (Nat.le_refl _) _⟩

/-- A line's box in memory, and all that lay below it. -/
def LnBox (w : World) (b p k : Nat) (T : ByteArray) (w' : World) : Prop := w'.cell? ⟨b, 0, none⟩ = some (.int .i64 p) ∧ w'.cell? ⟨b, 1, none⟩ = some (.int .i64 k) ∧ w'.cell? ⟨b, 2, none⟩ = some (.string T) ∧ b < w'.heap.size ∧ Below w.heap.size w w'
theorem LnBox.keep {w : World} {b p k : Nat} {T : ByteArray} {w' w'' : World} (h : LnBox w b p k T w') (hb : Below w'.heap.size w' w'') : LnBox w b p k T w'' := by
  obtain ⟨h0, h1, h2, h3, h4⟩ := h
  have := hb.size
  refine ⟨?_, ?_, ?_, by omega, h4.trans (hb.mono h4.size)⟩
  · rw [hb.cell (p := ⟨b, 0, none⟩) h3]; exact h0
  · rw [hb.cell (p := ⟨b, 1, none⟩) h3]; exact h1
  · rw [hb.cell (p := ⟨b, 2, none⟩) h3]; exact h2
theorem LnBox.start (w : World) (p k : Nat) (T : ByteArray) : LnBox w w.heap.size p k T (w.alloc (.cells #[.int .i64 p, .int .i64 k, .string T] 39)) :=
  ⟨by simp, by simp, by simp, by simp, (Below.refl _ _).alloc (Nat.le_refl _) _⟩
theorem from_keep {w : World} {b p k : Nat} {T : ByteArray} (hp : p ≤ 1000000) (hk : k ≤ 1000000) (W : World) (hS : LnBox w b p k T W) :
    Calls Tryd.prog 36 #[.agg #[.int .i64 p, .int .i64 k, .string T]] W fun e w' => e = .returned (.int .i64 ((p : Int) + (k : Int))) ∧ LnBox w b p k T w' :=
  (from_any p k T W hp hk).mono fun _ _ ⟨h1, h2⟩ => ⟨h1, hS.keep h2⟩

set_option maxRecDepth 100000 in
set_option maxHeartbeats 4000000 in
theorem row_any (s T : ByteArray) (p k : Nat) (w : World) (hs : s.size ≤ 1000000) (hq : p + k + T.size ≤ s.size) :
    Calls Tryd.prog 15 #[.string s, .agg #[.int .i64 p, .int .i64 k, .string T]] w fun e w' => e = .returned (.string (s.extract p (p + k + T.size))) ∧ Below w.heap.size w w' := by
  have hS0 : LnBox w w.heap.size p k T (w.alloc (.cells #[.int .i64 p, .int .i64 k, .string T] 39)) := LnBox.start w _ _ _
  have x1 : IntKind.i64.wrap ((p : Int) + (k : Int) + (T.size : Int)) = (p : Int) + (k : Int) + (T.size : Int) := by rw [IntKind.wrap_i64]; omega
  have x2 : (0 : Int) ≤ (p : Int) + (k : Int) + (T.size : Int) := by omega
  have x3 : (p : Int) ≤ (p : Int) + (k : Int) + (T.size : Int) := by omega
  have x4 : (p : Int) + (k : Int) + (T.size : Int) ≤ (s.size : Int) := by omega
  have x5 : ((p : Int) + (k : Int) + (T.size : Int)).toNat = p + k + T.size := by omega
  have hp : p ≤ 1000000 := by omega
  have hk : k ≤ 1000000 := by omega
  have HS0 := Lib.hid hS0
  clear hS0 hs hq
  go_enter Tryd.func15, Tryd.ntmps15
  go_wp2_with fail
  go_region_held3 (fun w' => w'.cell? ⟨w.heap.size, 0, none⟩ = some (.int .i64 p) ∧ w'.cell? ⟨w.heap.size, 1, none⟩ = some (.int .i64 k) ∧ w'.cell? ⟨w.heap.size, 2, none⟩ = some (.string T) ∧ w.heap.size < w'.heap.size ∧ Below w.heap.size w w') (first | exact HS0.out | exact LnBox.keep (w := w) HS0.out ((Below.refl _ _).drew) | exact ‹LnBox w _ _ _ _ _› | exact LnBox.keep (w := w) (b := w.heap.size) (p := p) (k := k) (T := T) ⟨‹_›, ‹_›, ‹_›, ‹_›, ‹_›⟩ ((Below.refl _ _).drew) | go_keep)
    (first | (go_at_call 36; refine (from_keep (w := w) (b := w.heap.size) (p := p) (k := k) (T := T) hp hk _ ?_).mono ?_; (first | exact ‹LnBox w _ _ _ _ _› | exact ⟨‹_›, ‹_›, ‹_›, ‹_›, ‹_›⟩); rintro e w' ⟨rfl, hs'⟩))
  all_goals
    go_wp2
    go_ret
    first
      | exact ⟨rfl, ‹Below w.heap.size w _›⟩
      | exact ⟨rfl, hs'.2.2.2.2⟩

set_option maxRecDepth 100000 in
set_option maxHeartbeats 4000000 in
theorem header_any (s : ByteArray) (w : World) (hs : s.size ≤ 1000000) :
    Calls Tryd.prog 16 #[.string s] w fun e w' => e = .returned (.string ⟨(hdN s).toArray⟩) ∧ w = w' := by
  have c1 := Tryd.strings_HasSuffix s ⟨#[10]⟩ w (by omega)
  have c2 := Tryd.strings_HasSuffix s ⟨#[10, 10]⟩ w (by omega)
  rw [show (⟨#[10]⟩ : ByteArray).data.toList = [10] from rfl] at c1
  rw [show (⟨#[10, 10]⟩ : ByteArray).data.toList = [10, 10] from rfl] at c2
  cases h1 : Lib.hasSuffix s.data.toList [10] with
  | false =>
    have HD := Lib.hid (hdN_a h1)
    rw [h1] at c1
    clear h1 c2
    go_enter Tryd.func16, Tryd.ntmps16
    go_wp2_with fail
    refine c1.mono ?_
    rintro e w' ⟨rfl, rfl⟩
    go_wp2
    go_ret
    exact ⟨by rw [HD.out]; rfl, rfl⟩
  | true =>
    rw [h1] at c1
    cases h2 : Lib.hasSuffix s.data.toList [10, 10] with
    | true =>
      have HD := Lib.hid (hdN_b h1 h2)
      rw [h2] at c2
      clear h1 h2
      go_enter Tryd.func16, Tryd.ntmps16
      go_wp2_with fail
      refine c1.mono ?_
      rintro e w' ⟨rfl, rfl⟩
      go_wp2_with fail
      refine c2.mono ?_
      rintro e w' ⟨rfl, rfl⟩
      go_wp2
      go_ret
      exact ⟨by rw [HD.out]; rfl, rfl⟩
    | false =>
      have HD := Lib.hid (hdN_c h1 h2)
      rw [h2] at c2
      clear h1 h2
      go_enter Tryd.func16, Tryd.ntmps16
      go_wp2_with fail
      refine c1.mono ?_
      rintro e w' ⟨rfl, rfl⟩
      go_wp2_with fail
      refine c2.mono ?_
      rintro e w' ⟨rfl, rfl⟩
      go_wp2
      go_ret
      exact ⟨by rw [HD.out]; rfl, rfl⟩
end Go.Proofs.YtcmdpablbadloaaDoor
