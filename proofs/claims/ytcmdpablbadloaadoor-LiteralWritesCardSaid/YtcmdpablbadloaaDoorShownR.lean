/- The walk of the document's Shown (as in the texts of layer 3). -/
import Derived.Test.YtcmdpablbadloaaDoorCharAll
import Derived.Test.YtcmdpablbadloaaDoorShownP
namespace Go.Proofs.YtcmdpablbadloaaDoor
open Go.RowKit

set_option maxRecDepth 100000 in
set_option maxHeartbeats 2000000 in
theorem refShown_any (s : ByteArray) (w : World) (hs : s.size ≤ 3000) :
    Calls Tryd.prog 22 #[.string s] w fun e w' => e = .returned (.bool (shownB s)) ∧ ∃ n, w' = w.drewN n := by
  have hs' : s.size ≤ maxLen := by unfold maxLen; omega
  go_enter Tryd.func22, Tryd.ntmps22
  go_wp2
  go_loopw [3] (fun d wr => ∃ (i f n : Nat), wr = w.drewN n ∧ d = .int .i64 i ∧ Hid (shf s f i = shownB s) ∧ s.size ≤ i + f ∧ i ≤ s.size) (fun d _ => s.size - (intOf d).toNat)
  case atStart => exact ⟨0, s.size, 0, rfl, rfl, Lib.hid rfl, by omega, by omega⟩
  case round =>
    obtain ⟨i, f, n, rfl, rfl, hp, hf, hi⟩ := hrel
    by_cases hlt : i < s.size
    · obtain ⟨f, rfl⟩ : ∃ g, f = g + 1 := ⟨f - 1, by omega⟩
      have hw := wd_le s i hlt
      have hw1 := wd_pos s i
      have hd : (chr s i).1 ≤ 1114111 := by have := chr_sur s i; omega
      go_wp2_with fail
      refine (char_any s i _ hlt hs').mono ?_
      rintro e w' ⟨rfl, n', rfl⟩
      rcases chr_wd s i with ⟨z1, z2⟩ | ⟨z1, z2⟩
      · have t1 : (((chr s i).2 : Int) == 0) = true := by simp [z1]
        have hg := Lib.hid (show shAt s i = false by simp [shAt, goodAt, z1])
        clear z1 z2
        go_wp2
        go_ret
        exact ⟨ret_b (by rw [← hp.out, shf_bad s f i hlt hg.out]), n + n', by simp⟩
      · have t1 : (((chr s i).2 : Int) == 0) = false := by simp [z1]
        have hz : (chr s i).2 ≤ s.size - i := by omega
        have hz1 : 1 ≤ (chr s i).2 := by omega
        have hsa : shAt s i = (signB (chr s i).1 && !decide ((chr s i).1 = 10)) := by
          unfold shAt goodAt; rw [decide_eq_true z1]; simp
        have Z2 := Lib.hid z2
        clear z1 z2
        by_cases h10 : (chr s i).1 = 10
        · have t2 : (((chr s i).1 : Int) == 10) = true := by simp [h10]
          have hg := Lib.hid (show shAt s i = false by rw [hsa, h10]; simp)
          clear h10 hsa
          go_wp2
          go_ret
          exact ⟨ret_b (by rw [← hp.out, shf_bad s f i hlt hg.out]), n + n', by simp⟩
        · have t2 : (((chr s i).1 : Int) == 10) = false := by simp; omega
          cases hsg : signB (chr s i).1 with
          | false =>
            have HS := Lib.hid hsg
            have hg := Lib.hid (show shAt s i = false by rw [hsa, hsg]; simp)
            clear hsg hsa h10
            go_wp2_with fail
            refine (refSign_any _ _ (by omega)).mono ?_
            rintro e w' ⟨rfl, rfl⟩
            rw [HS.out]
            go_wp2
            go_ret
            exact ⟨ret_b (by rw [← hp.out, shf_bad s f i hlt hg.out]), n + n', by simp⟩
          | true =>
            have HS := Lib.hid hsg
            have hg := Lib.hid (show shAt s i = true by rw [hsa, hsg]; simp [h10])
            clear hsg hsa h10
            go_wp2_with fail
            refine (refSign_any _ _ (by omega)).mono ?_
            rintro e w' ⟨rfl, rfl⟩
            rw [HS.out]
            go_wp2
            go_roundw
            case rel => exact ⟨i + (chr s i).2, f, n + n', by simp, by go_num, Lib.hid (by rw [← hp.out, shf_good s f i hlt hg.out, Z2.out]), by omega, by omega⟩
            case measure => simp [intOf]; omega
    · go_wp2
      go_ret
      exact ⟨ret_b (by rw [← hp.out, shf_end s f i (by omega)]), n, rfl⟩
end Go.Proofs.YtcmdpablbadloaaDoor
