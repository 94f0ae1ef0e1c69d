/- The walks of the document's Valid, and of its Shown for longer texts than char/XShown has. -/
import Derived.Test.YtoobbmehjpninaaGreatDoorValidP
import Derived.Test.YtoobbmehjpninaaGreatDoorCharAll
import Derived.Test.YtoobbmehjpninaaGreatDoorBackD
namespace Go.Proofs.YtoobbmehjpninaaGreatDoor
open Go.RowKit

set_option maxRecDepth 100000 in
set_option maxHeartbeats 2000000 in
theorem refValid_any (s : ByteArray) (w : World) (hs : s.size ≤ 10000) :
    Calls Tryz.prog 11 #[.string s] w fun e w' => e = .returned (.bool (vldF s s.size 0)) ∧ ∃ n, w' = w.drewN n := by
  have hs' : s.size ≤ maxLen := by unfold maxLen; omega
  go_enter Tryz.func11, Tryz.ntmps11
  go_wp2
  go_loopw [3] (fun d wr => ∃ (i f n : Nat), wr = w.drewN n ∧ d = .int .i64 i ∧ Hid (vldF s f i = vldF s s.size 0) ∧ s.size ≤ i + f ∧ i ≤ s.size) (fun d _ => s.size - (intOf d).toNat)
  case atStart => exact ⟨0, s.size, 0, rfl, rfl, Lib.hid rfl, by omega, by omega⟩
  case round =>
    obtain ⟨i, f, n, rfl, rfl, hp, hf, hi⟩ := hrel
    by_cases hlt : i < s.size
    · obtain ⟨f, rfl⟩ : ∃ g, f = g + 1 := ⟨f - 1, by omega⟩
      have hw := wd_le s i hlt
      have hw1 := wd_pos s i
      go_wp2_with fail
      refine (char_any s i _ hlt hs').mono ?_
      rintro e w' ⟨rfl, n', rfl⟩
      rcases chr_wd s i with ⟨z1, z2⟩ | ⟨z1, z2⟩
      · have t1 : (((chr s i).2 : Int) == 0) = true := by simp [z1]
        have hg := Lib.hid (vldF_bad (f := f) hlt z1)
        clear z1 z2
        go_wp2
        go_ret
        exact ⟨retQ (by rw [← hp.out, hg.out]), n + n', by simp⟩
      · have t1 : (((chr s i).2 : Int) == 0) = false := by simp [z1]
        have hz : (chr s i).2 ≤ s.size - i := by omega
        have hz1 : 1 ≤ (chr s i).2 := by omega
        have hg := Lib.hid (vldF_good (f := f) hlt z1)
        clear z1 z2
        go_wp2
        go_roundw
        case rel => exact ⟨i + (chr s i).2, f, n + n', by simp, by go_num, Lib.hid (by rw [← hp.out, hg.out]), by omega, by omega⟩
        case measure => simp [intOf]; omega
    · go_wp2
      go_ret
      exact ⟨retQ (by rw [← hp.out, vldF_end s f i (by omega)]), n, rfl⟩

set_option maxRecDepth 100000 in
set_option maxHeartbeats 2000000 in
theorem refShownQ_any (s : ByteArray) (w : World) (hs : s.size ≤ 10000) :
    Calls Tryz.prog 15 #[.string s] w fun e w' => e = .returned (.bool (shqF s s.size 0)) ∧ ∃ n, w' = w.drewN n := by
  have hs' : s.size ≤ maxLen := by unfold maxLen; omega
  go_enter Tryz.func15, Tryz.ntmps15
  go_wp2
  go_loopw [3] (fun d wr => ∃ (i f n : Nat), wr = w.drewN n ∧ d = .int .i64 i ∧ Hid (shqF s f i = shqF s s.size 0) ∧ s.size ≤ i + f ∧ i ≤ s.size) (fun d _ => s.size - (intOf d).toNat)
  case atStart => exact ⟨0, s.size, 0, rfl, rfl, Lib.hid rfl, by omega, by omega⟩
  case round =>
    obtain ⟨i, f, n, rfl, rfl, hp, hf, hi⟩ := hrel
    by_cases hlt : i < s.size
    · obtain ⟨f, rfl⟩ : ∃ g, f = g + 1 := ⟨f - 1, by omega⟩
      have hw := wd_le s i hlt
      have hw1 := wd_pos s i
      have hd : (chr s i).1 ≤ 1114111 := chr_le s i
      go_wp2_with fail
      refine (char_any s i _ hlt hs').mono ?_
      rintro e w' ⟨rfl, n', rfl⟩
      rcases chr_wd s i with ⟨z1, z2⟩ | ⟨z1, z2⟩
      · have t1 : (((chr s i).2 : Int) == 0) = true := by simp [z1]
        have hg := Lib.hid (shqF_bad (f := f) hlt (.inl z1))
        clear z1 z2
        go_wp2
        go_ret
        exact ⟨retQ (by rw [← hp.out, hg.out]), n + n', by simp⟩
      · have t1 : (((chr s i).2 : Int) == 0) = false := by simp [z1]
        have hz : (chr s i).2 ≤ s.size - i := by omega
        have hz1 : 1 ≤ (chr s i).2 := by omega
        have Z1 := Lib.hid z1
        clear z1 z2
        by_cases h10 : (chr s i).1 = 10
        · have t2 : (((chr s i).1 : Int) == 10) = true := by simp [h10]
          have hg := Lib.hid (shqF_bad (f := f) hlt (.inr (.inl h10)))
          clear h10
          go_wp2
          go_ret
          exact ⟨retQ (by rw [← hp.out, hg.out]), n + n', by simp⟩
        · have t2 : (((chr s i).1 : Int) == 10) = false := by simp; omega
          cases hsg : signB (chr s i).1 with
          | false =>
            have HS := Lib.hid hsg
            have hg := Lib.hid (shqF_bad (f := f) hlt (.inr (.inr hsg)))
            clear hsg h10
            go_wp2_with fail
            refine (refSign_any _ _ (by omega)).mono ?_
            rintro e w' ⟨rfl, rfl⟩
            rw [HS.out]
            go_wp2
            go_ret
            exact ⟨retQ (by rw [← hp.out, hg.out]), n + n', by simp⟩
          | true =>
            have HS := Lib.hid hsg
            have hg := Lib.hid (shqF_good (f := f) hlt Z1.out h10 hsg)
            clear hsg h10
            go_wp2_with fail
            refine (refSign_any _ _ (by omega)).mono ?_
            rintro e w' ⟨rfl, rfl⟩
            rw [HS.out]
            go_wp2
            go_roundw
            case rel => exact ⟨i + (chr s i).2, f, n + n', by simp, by go_num, Lib.hid (by rw [← hp.out, hg.out]), by omega, by omega⟩
            case measure => simp [intOf]; omega
    · go_wp2
      go_ret
      exact ⟨retQ (by rw [← hp.out, shqF_end s f i (by omega)]), n, rfl⟩
end Go.Proofs.YtoobbmehjpninaaGreatDoor
