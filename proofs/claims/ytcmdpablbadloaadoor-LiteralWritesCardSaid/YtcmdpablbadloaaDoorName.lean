
/- The walks of Name and Easy, the program's and the document's. -/
import Derived.Test.YtcmdpablbadloaaDoorLetter
import Derived.Test.YtcmdpablbadloaaDoorParts
import Derived.Test.YtcmdpablbadloaaDoorChr
namespace Go.Proofs.YtcmdpablbadloaaDoor
open Go.RowKit

/-- Have all bytes of s the property p? -/
def allB (p : Nat → Bool) (s : ByteArray) : Bool := s.data.toList.all fun b => p b.toNat
theorem all_bad {p : Nat → Bool} {s : ByteArray} {k : Nat} (h : k < s.size) (hp : p (s[k].toNat) = false) : allB p s = false := by
  unfold allB
  rw [List.all_eq_false]
  exact ⟨s[k], by simp only [Array.mem_toList_iff]; exact Array.getElem_mem _, by simp [hp]⟩
theorem all_step {p : Nat → Bool} {s : ByteArray} {k : Nat} (h : k < s.size) (hp : p (s[k].toNat) = true) (ha : (s.data.toList.take k).all (fun b => p b.toNat) = true) : (s.data.toList.take (k + 1)).all (fun b => p b.toNat) = true := by
  rw [snoc_take s k h, List.all_append, ha]; simp [hp]
theorem all_end {p : Nat → Bool} {s : ByteArray} {k : Nat} (h : s.size ≤ k) (ha : (s.data.toList.take k).all (fun b => p b.toNat) = true) : allB p s = true := by
  rw [List.take_of_length_le (by simpa using h)] at ha; exact ha
def nameB (s : ByteArray) : Bool := decide (1 ≤ s.size ∧ s.size ≤ 32) && allB wordB s
def easyC (c : Nat) : Bool := wordB c || decide (c = 46) || decide (c = 47)
def easyB (s : ByteArray) : Bool := decide (0 < s.size) && letterB (bt s 0) && allB easyC s
theorem ne_facts {s : ByteArray} (h : 0 < s.size) : s.toList.isEmpty = false ∧ ¬ s.toList = [] := by
  have : s.toList ≠ [] := by
    rw [ByteArray.toList_eq]
    intro e
    have h2 : s.data.toList.length = 0 := by rw [e]; rfl
    rw [Array.length_toList] at h2
    have : s.size = s.data.size := rfl
    omega
  exact ⟨by simpa using this, this⟩
theorem empty_of {s : ByteArray} (h : ¬ 0 < s.size) : s = ⟨#[]⟩ := by
  apply ByteArray.ext
  have : s.data.size = 0 := by have : s.size = s.data.size := rfl; omega
  exact Array.eq_empty_of_size_eq_zero this

set_option maxRecDepth 100000 in
set_option maxHeartbeats 1000000 in
theorem name_any (s : ByteArray) (w : World) (hs : s.size ≤ 3000) :
    Calls Tryd.prog 25 #[.string s] w fun e w' => e = .returned (.bool (nameB s)) ∧ w = w' := by
  by_cases h0 : 0 < s.size
  · obtain ⟨e1, e2⟩ := ne_facts h0
    by_cases h32 : s.size ≤ 32
    · have HN := Lib.hid (show nameB s = allB wordB s by unfold nameB; rw [decide_eq_true (by omega)]; simp)
      have z1 : decide (32 < s.size) = false := decide_eq_false (by omega)
      go_enter Tryd.func25, Tryd.ntmps25
      go_wp2
      go_loop [13] (fun j => ∃ k : Nat, j = .int .i64 k ∧ k ≤ s.size ∧ Hid ((s.data.toList.take k).all (fun b => wordB b.toNat) = true)) (fun j => s.size - (intOf j).toNat)
      case atStart => exact ⟨0, rfl, by omega, Lib.hid (by simp)⟩
      case round =>
        obtain ⟨k, rfl, hk, ha⟩ := hrel
        by_cases hlt : k < s.size
        · cases hb : wordB (s[k].toNat) with
          | true =>
            have HB := Lib.hid hb
            clear hb
            go_wp2_with fail
            refine (word_any _ _ (UInt8.toNat_lt _)).mono ?_
            rintro e w' ⟨rfl, rfl⟩
            rw [HB.out]
            go_wp2
            go_round
            case rel => exact ⟨k + 1, by go_num, by omega, Lib.hid (all_step hlt HB.out ha.out)⟩
            case measure => simp [intOf]; omega
          | false =>
            have HB := Lib.hid hb
            clear hb
            go_wp2_with fail
            refine (word_any _ _ (UInt8.toNat_lt _)).mono ?_
            rintro e w' ⟨rfl, rfl⟩
            rw [HB.out]
            go_wp2
            go_ret
            exact ⟨ret_b (by rw [HN.out, all_bad hlt HB.out]), rfl⟩
        · go_wp2
          go_ret
          exact ⟨ret_b (by rw [HN.out, all_end (by omega) ha.out]), rfl⟩
    · have HN := Lib.hid (show nameB s = false by unfold nameB; rw [decide_eq_false (by omega)]; simp)
      go_enter Tryd.func25, Tryd.ntmps25
      go_wp2
      go_ret
      exact ⟨ret_b HN.out.symm, rfl⟩
  · obtain rfl := empty_of h0
    go_enter Tryd.func25, Tryd.ntmps25
    go_wp2
    go_ret
    exact ⟨rfl, rfl⟩

end Go.Proofs.YtcmdpablbadloaaDoor
