/- The walks of Place, the program's and the document's. -/
import Derived.Test.YtolffmmgflbaoaaDoorCharAll
import Derived.Test.YtolffmmgflbaoaaDoorPlc
import Derived.WalkKit
import Derived.WalkSpells
import Derived.WalkLawsBesides
import Derived.Lib.Hide
namespace Go.Proofs.YtolffmmgflbaoaaDoor
open Go.RowKit

set_option maxRecDepth 100000 in
set_option maxHeartbeats 1000000 in
theorem place_out (s : ByteArray) (p : Int) (w : World) (hs : s.size ≤ maxLen) (h : p < 0 ∨ (s.size : Int) < p) :
    Calls Tryd.prog 11 #[.string s, .int .i64 p] w fun e w' => e = .returned (.tuple #[.int .i64 0, .int .i64 0]) ∧ Below w.heap.size w w' := by
  unfold maxLen at hs
  rcases h with h | h
  · go_enter Tryd.func11, Tryd.ntmps11
    go_wp2
    go_ret2
    exact ⟨rfl, Below.refl _ _⟩
  · have h0 : 0 ≤ p := by omega
    go_enter Tryd.func11, Tryd.ntmps11
    go_wp2
    go_ret2
    exact ⟨rfl, Below.refl _ _⟩

set_option maxRecDepth 100000 in
set_option maxHeartbeats 1000000 in
theorem refPlace_out (s : ByteArray) (p : Int) (w : World) (hs : s.size ≤ maxLen) (h : p < 0 ∨ (s.size : Int) < p) :
    Calls Tryd.prog 12 #[.string s, .int .i64 p] w fun e w' => e = .returned (.tuple #[.int .i64 0, .int .i64 0]) ∧ Below w.heap.size w w' := by
  unfold maxLen at hs
  rcases h with h | h
  · go_enter Tryd.func12, Tryd.ntmps12
    go_wp2
    go_ret2
    exact ⟨rfl, Below.refl _ _⟩
  · have h0 : 0 ≤ p := by omega
    go_enter Tryd.func12, Tryd.ntmps12
    go_wp2
    go_ret2
    exact ⟨rfl, Below.refl _ _⟩

set_option maxRecDepth 100000 in
set_option maxHeartbeats 1000000 in
theorem place_in (s : ByteArray) (p : Nat) (w : World) (hs : s.size ≤ 1099511627776) (h : p ≤ s.size) :
    Calls Tryd.prog 11 #[.string s, .int .i64 p] w fun e w' => e = .returned (.tuple #[.int .i64 (pl s p s.size 0 1 1).1, .int .i64 (pl s p s.size 0 1 1).2]) ∧ Below w.heap.size w w' := by
  go_enter Tryd.func11, Tryd.ntmps11
  go_wp2
  go_loopw [6, 7] (fun a b w' => ∃ (i f r c : Nat), w' = w.iter s i ∧ a = .int .i64 r ∧ b = .int .i64 c ∧ Hid (pl s p f i r c = pl s p s.size 0 1 1) ∧ s.size ≤ i + f ∧ i ≤ s.size ∧ r ≤ i + 1 ∧ c ≤ i + 1) (fun _ _ w' => s.size - w'.iterPos w.heap.size)
  case atStart => exact ⟨0, s.size, 1, 1, rfl, rfl, rfl, Lib.hid rfl, by omega, by omega, by omega, by omega⟩
  case round =>
    obtain ⟨i, f, r, c, rfl, rfl, rfl, hp, hf, hi, hr, hc⟩ := hrel
    by_cases hlt : i < s.size
    · have hnx : ∀ ty, (Instr.next (.pointer (some ⟨w.heap.size, 0, none⟩)) true ty).run Tryd.prog (w.iter s i) = _ := fun ty => run_next_any w s i ty hlt
      go_wp2
      · have hge : p ≤ i := by assumption
        go_ret2
        have e1 := hp.out
        rw [pl_end s p f i r c hge] at e1
        exact ⟨ret_ints (by rw [← e1]) (by rw [← e1]), (Below.refl _ _).alloc (Nat.le_refl _) _⟩
      · have hx : i < p := by omega
        have h10 : bt s i = 10 := (dec_10 s i hlt).1 (by have := (‹(((Utf8.decode s i).1 : Int) == 10) = true›); simp at this; omega)
        have hw := wd_le s i hlt
        have hw1 := wd_pos s i
        go_roundw
        case rel =>
          cases f with
          | zero => omega
          | succ f => exact ⟨i + wd s i, f, r + 1, 1, rfl, by go_num, rfl, Lib.hid (by rw [← hp.out, pl_feed s p f i r c hx h10]), by omega, by omega, by omega, by omega⟩
        case measure =>
          simp
          unfold wd at hw1
          omega
      · have hx : i < p := by omega
        have h10 : bt s i ≠ 10 := fun hh => by
          have h1 := (dec_10 s i hlt).2 hh
          have := (‹(((Utf8.decode s i).1 : Int) == 10) = false›)
          simp [h1] at this
        have hw := wd_le s i hlt
        have hw1 := wd_pos s i
        go_roundw
        case rel =>
          cases f with
          | zero => omega
          | succ f => exact ⟨i + wd s i, f, r, c + 1, rfl, rfl, by go_num, Lib.hid (by rw [← hp.out, pl_sign s p f i r c hx h10]), by omega, by omega, by omega, by omega⟩
        case measure =>
          simp
          unfold wd at hw1
          omega
    · have hnx : ∀ ty, (Instr.next (.pointer (some ⟨w.heap.size, 0, none⟩)) true ty).run Tryd.prog (w.iter s i) = _ := fun ty => run_next_end w s i ty hlt
      go_wp2
      go_ret2
      have e1 := hp.out
      rw [pl_end s p f i r c (by omega)] at e1
      exact ⟨ret_ints (by rw [← e1]) (by rw [← e1]), (Below.refl _ _).alloc (Nat.le_refl _) _⟩

set_option maxRecDepth 100000 in
set_option maxHeartbeats 1000000 in
theorem refPlace_in (s : ByteArray) (p : Nat) (w : World) (hs : s.size ≤ 1099511627776) (h : p ≤ s.size) :
    Calls Tryd.prog 12 #[.string s, .int .i64 p] w fun e w' => e = .returned (.tuple #[.int .i64 (pl s p s.size 0 1 1).1, .int .i64 (pl s p s.size 0 1 1).2]) ∧ Below w.heap.size w w' := by
  have hs' : s.size ≤ maxLen := by unfold maxLen; omega
  have hp0 : decide ((p : Int) < 0) = false := by simp
  have hp1 : decide (s.size < p) = false := by simp; omega
  go_enter Tryd.func12, Tryd.ntmps12
  go_wp2
  go_loopw [6, 7, 8] (fun a b d w' => ∃ (i f r c n : Nat), w' = w.drewN n ∧ a = .int .i64 r ∧ b = .int .i64 c ∧ d = .int .i64 i ∧ Hid (pl s p f i r c = pl s p s.size 0 1 1) ∧ s.size ≤ i + f ∧ i ≤ s.size ∧ r ≤ i + 1 ∧ c ≤ i + 1) (fun _ _ d _ => s.size - (intOf d).toNat)
  case atStart => exact ⟨0, s.size, 1, 1, 0, rfl, rfl, rfl, rfl, Lib.hid rfl, by omega, by omega, by omega, by omega⟩
  case round =>
    obtain ⟨i, f, r, c, n, rfl, rfl, rfl, rfl, hp, hf, hi, hr, hc⟩ := hrel
    by_cases hlt : i < p
    · have hb := bt_get s i (by omega)
      have hb' : i < s.size := by omega
      have hw := wd_le s i hb'
      have hw1 := wd_pos s i
      go_wp2_with fail
      refine (char_any s i _ (by omega) hs').mono ?_
      rintro e w' ⟨rfl, n', rfl⟩
      rcases chr_wd s i with ⟨z1, z2⟩ | ⟨z1, z2⟩
      · have t1 : (((chr s i).2 : Int) == 0) = true := by simp [z1]
        have Z2 := Lib.hid z2
        clear z1 z2
        by_cases h10 : bt s i = 10
        · have t2 : ((bt s i : Int) == 10) = true := by simp [h10]
          have H10 := Lib.hid h10
          clear h10
          go_wp2
          go_roundw
          case rel =>
            cases f with
            | zero => omega
            | succ f => exact ⟨i + 1, f, r + 1, 1, n + n', by simp, by go_num, rfl, by go_num, Lib.hid (by rw [← hp.out, pl_feed s p f i r c hlt H10.out, Z2.out]), by omega, by omega, by omega, by omega⟩
          case measure => simp [intOf]; omega
        · have t2 : ((bt s i : Int) == 10) = false := by simp; omega
          have H10 := Lib.hid h10
          clear h10
          go_wp2
          go_roundw
          case rel =>
            cases f with
            | zero => omega
            | succ f => exact ⟨i + 1, f, r, c + 1, n + n', by simp, rfl, by go_num, by go_num, Lib.hid (by rw [← hp.out, pl_sign s p f i r c hlt H10.out, Z2.out]), by omega, by omega, by omega, by omega⟩
          case measure => simp [intOf]; omega
      · have t1 : (((chr s i).2 : Int) == 0) = false := by simp [z1]
        have hz : (chr s i).2 ≤ s.size - i := by omega
        have hz1 : 1 ≤ (chr s i).2 := by omega
        have Z2 := Lib.hid z2
        clear z1 z2
        by_cases h10 : bt s i = 10
        · have t2 : ((bt s i : Int) == 10) = true := by simp [h10]
          have H10 := Lib.hid h10
          clear h10
          go_wp2
          go_roundw
          case rel =>
            cases f with
            | zero => omega
            | succ f => exact ⟨i + (chr s i).2, f, r + 1, 1, n + n', by simp, by go_num, rfl, by go_num, Lib.hid (by rw [← hp.out, pl_feed s p f i r c hlt H10.out, Z2.out]), by omega, by omega, by omega, by omega⟩
          case measure => simp [intOf]; omega
        · have t2 : ((bt s i : Int) == 10) = false := by simp; omega
          have H10 := Lib.hid h10
          clear h10
          go_wp2
          go_roundw
          case rel =>
            cases f with
            | zero => omega
            | succ f => exact ⟨i + (chr s i).2, f, r, c + 1, n + n', by simp, rfl, by go_num, by go_num, Lib.hid (by rw [← hp.out, pl_sign s p f i r c hlt H10.out, Z2.out]), by omega, by omega, by omega, by omega⟩
          case measure => simp [intOf]; omega
    · go_wp2
      go_ret2
      have e1 := hp.out
      rw [pl_end s p f i r c (by omega)] at e1
      exact ⟨ret_ints (by rw [← e1]) (by rw [← e1]), below_drewN (Below.refl _ _) _⟩
end Go.Proofs.YtolffmmgflbaoaaDoor
