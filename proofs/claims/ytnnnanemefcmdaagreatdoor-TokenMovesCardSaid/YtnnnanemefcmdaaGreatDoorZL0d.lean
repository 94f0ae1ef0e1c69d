/- The walks of Name and Easy, the program's and the document's. -/
import Derived.Test.YtnnnanemefcmdaaGreatDoorZL0c
import Derived.Test.YtnnnanemefcmdaaGreatDoorZL0a
import Derived.Lib.TrimByte
import Derived.Test.YtnnnanemefcmdaaGreatDoorShelf
import Derived.Test.YtnnnanemefcmdaaGreatDoorRows
import Derived.Shelf.Strings.BuilderRune
import Derived.Shelf.Strings.BuilderK
import Derived.Test.YtnnnanemefcmdaaGreatDoorZL0b
import Derived.WalkKit
import Derived.WalkSpells
import Derived.WalkLawsBesides
import Derived.Deep.QuietTactic
import Derived.BigQuiet
import Derived.Lib.Hide
namespace Go.Proofs.YtnnnanemefcmdaaGreatDoor
open Go.RowKit

/-- Have all bytes of s the property p? -/
def allB (p : Nat → Bool) (s : ByteArray) : Bool := s.data.toList.all fun b => p b.toNat
theorem all_bad {p : Nat → Bool} {s : ByteArray} {k : Nat} (h : k < s.size) (hp : p (s[k].toNat) = false) : allB p s = false := by
  unfold allB
  rw [List.all_eq_false]
  exact ⟨s[k], by simp only [Array.mem_toList_iff]; exact Array.getElem_mem _, by simp [hp]⟩
theorem all_step {p : Nat → Bool} {s : ByteArray} {k : Nat} (h : k < s.size) (hp : p (s[k].toNat) = true) (ha : (s.data.toList.take k).all (fun b => p b.toNat) = true) : (s.data.toList.take (k + 1)).all (fun b => p b.toNat) = true := by
  rw [snoc_take s k h, List.all_append, ha]; simp [hp]
theorem all_end {p : Nat → Bool} {s : ByteArray} {k : Nat} (h : s.size ≤ k) (ha : (s.data.toList.take k).all (fun b => p b.toNat) = true) : allB p s = true := by
  rw [List.take_of_length_le (by simpa using h)] at ha; exact ha
def nameB (s : ByteArray) : Bool := decide (1 ≤ s.size ∧ s.size ≤ 32) && allB wordB s
def easyC (c : Nat) : Bool := wordB c || decide (c = 46) || decide (c = 47)
def easyB (s : ByteArray) : Bool := decide (0 < s.size) && letterB (bt s 0) && allB easyC s
theorem ne_facts {s : ByteArray} (h : 0 < s.size) : s.toList.isEmpty = false ∧ ¬ s.toList = [] := by
  have : s.toList ≠ [] := by
    rw [ByteArray.toList_eq]
    intro e
    have h2 : s.data.toList.length = 0 := by rw [e]; rfl
    rw [Array.length_toList] at h2
    have : s.size = s.data.size := rfl
    omega
  exact ⟨by simpa using this, this⟩
theorem empty_of {s : ByteArray} (h : ¬ 0 < s.size) : s = ⟨#[]⟩ := by
  apply ByteArray.ext
  have : s.data.size = 0 := by have : s.size = s.data.size := rfl; omega
  exact Array.eq_empty_of_size_eq_zero this

set_option maxRecDepth 100000 in
set_option maxHeartbeats 1000000 in
theorem name_any (s : ByteArray) (w : World) (hs : s.size ≤ 3000) :
    Calls Tryz.prog 60 #[.string s] w fun e w' => e = .returned (.bool (nameB s)) ∧ w = w' := by
  by_cases h0 : 0 < s.size
  · obtain ⟨e1, e2⟩ := ne_facts h0
    by_cases h32 : s.size ≤ 32
    · have HN := Lib.hid (show nameB s = allB wordB s by unfold nameB; rw [decide_eq_true (by omega)]; simp)
      have z1 : decide (32 < s.size) = false := decide_eq_false (by omega)
      go_enter Tryz.func60, Tryz.ntmps60
      go_wp2
      go_loop [13] (fun j => ∃ k : Nat, j = .int .i64 k ∧ k ≤ s.size ∧ Hid ((s.data.toList.take k).all (fun b => wordB b.toNat) = true)) (fun j => s.size - (intOf j).toNat)
      case atStart => exact ⟨0, rfl, by omega, Lib.hid (by simp)⟩
      case round =>
        obtain ⟨k, rfl, hk, ha⟩ := hrel
        by_cases hlt : k < s.size
        · cases hb : wordB (s[k].toNat) with
          | true =>
            have HB := Lib.hid hb
            clear hb
            go_wp2_with fail
            refine (word_any _ _ (UInt8.toNat_lt _)).mono ?_
            rintro e w' ⟨rfl, rfl⟩
            rw [HB.out]
            go_wp2
            go_round
            case rel => exact ⟨k + 1, by go_num, by omega, Lib.hid (all_step hlt HB.out ha.out)⟩
            case measure => simp [intOf]; omega
          | false =>
            have HB := Lib.hid hb
            clear hb
            go_wp2_with fail
            refine (word_any _ _ (UInt8.toNat_lt _)).mono ?_
            rintro e w' ⟨rfl, rfl⟩
            rw [HB.out]
            go_wp2
            go_ret
            exact ⟨ret_b (by rw [HN.out, all_bad hlt HB.out]), rfl⟩
        · go_wp2
          go_ret
          exact ⟨ret_b (by rw [HN.out, all_end (by omega) ha.out]), rfl⟩
    · have HN := Lib.hid (show nameB s = false by unfold nameB; rw [decide_eq_false (by omega)]; simp)
      go_enter Tryz.func60, Tryz.ntmps60
      go_wp2
      go_ret
      exact ⟨ret_b HN.out.symm, rfl⟩
  · obtain rfl := empty_of h0
    go_enter Tryz.func60, Tryz.ntmps60
    go_wp2
    go_ret
    exact ⟨rfl, rfl⟩

set_option maxRecDepth 100000 in
set_option maxHeartbeats 1000000 in
theorem refName_any (s : ByteArray) (w : World) (hs : s.size ≤ 3000) :
    Calls Tryz.prog 75 #[.string s] w fun e w' => e = .returned (.bool (nameB s)) ∧ w = w' := by
  by_cases h0 : 0 < s.size
  · by_cases h32 : s.size ≤ 32
    · have HN := Lib.hid (show nameB s = allB wordB s by unfold nameB; rw [decide_eq_true (by omega)]; simp)
      have z1 : decide (32 < s.size) = false := decide_eq_false (by omega)
      have z2 : decide (s.size < 1) = false := decide_eq_false (by omega)
      go_enter Tryz.func75, Tryz.ntmps75
      go_wp2
      go_loop [3] (fun j => ∃ k : Nat, j = .int .i64 k ∧ k ≤ s.size ∧ Hid ((s.data.toList.take k).all (fun b => wordB b.toNat) = true)) (fun j => s.size - (intOf j).toNat)
      case atStart => exact ⟨0, rfl, by omega, Lib.hid (by simp)⟩
      case round =>
        obtain ⟨k, rfl, hk, ha⟩ := hrel
        by_cases hlt : k < s.size
        · cases hb : wordB (s[k].toNat) with
          | true =>
            have HB := Lib.hid hb
            clear hb
            go_wp2_with fail
            refine (refWord_any _ _ (UInt8.toNat_lt _)).mono ?_
            rintro e w' ⟨rfl, rfl⟩
            rw [HB.out]
            go_wp2
            go_round
            case rel => exact ⟨k + 1, by go_num, by omega, Lib.hid (all_step hlt HB.out ha.out)⟩
            case measure => simp [intOf]; omega
          | false =>
            have HB := Lib.hid hb
            clear hb
            go_wp2_with fail
            refine (refWord_any _ _ (UInt8.toNat_lt _)).mono ?_
            rintro e w' ⟨rfl, rfl⟩
            rw [HB.out]
            go_wp2
            go_ret
            exact ⟨ret_b (by rw [HN.out, all_bad hlt HB.out]), rfl⟩
        · go_wp2
          go_ret
          exact ⟨ret_b (by rw [HN.out, all_end (by omega) ha.out]), rfl⟩
    · have HN := Lib.hid (show nameB s = false by unfold nameB; rw [decide_eq_false (by omega)]; simp)
      go_enter Tryz.func75, Tryz.ntmps75
      go_wp2
      go_ret
      exact ⟨ret_b HN.out.symm, rfl⟩
  · obtain rfl := empty_of h0
    go_enter Tryz.func75, Tryz.ntmps75
    go_wp2
    go_ret
    exact ⟨rfl, rfl⟩
end Go.Proofs.YtnnnanemefcmdaaGreatDoor
namespace Go.Proofs.YtnnnanemefcmdaaGreatDoor

/-- Ahead of which place a plain text that begins at i ends, blanks with it. -/
def endOf (s : ByteArray) (fl : Bool) (i : Nat) : Nat := ((List.range' (i + 1) (s.size - (i + 1))).find? fun k => endsB s k fl).getD s.size
theorem endOf_eq {s : ByteArray} {fl : Bool} {i E : Nat} (h1 : i < E) (h2 : E ≤ s.size) (h3 : E = s.size ∨ endsB s E fl = true) (h4 : ∀ k, i < k → k < E → endsB s k fl = false) : endOf s fl i = E := by
  unfold endOf
  by_cases hE : E < s.size
  · have h5 : endsB s E fl = true := by rcases h3 with h3 | h3; omega; exact h3
    have : (List.range' (i + 1) (s.size - (i + 1))).find? (fun k => endsB s k fl) = some E := by
      rw [List.find?_range'_eq_some]
      refine ⟨h5, by rw [List.mem_range']; exact ⟨E - (i + 1), by omega, by omega⟩, ?_⟩
      intro j hj hjE
      simp [h4 j (by omega) hjE]
    rw [this]; rfl
  · have hE' : E = s.size := by omega
    have : (List.range' (i + 1) (s.size - (i + 1))).find? (fun k => endsB s k fl) = none := by
      rw [List.find?_eq_none]
      intro k hk
      rw [List.mem_range'] at hk
      obtain ⟨d, hd, rfl⟩ := hk
      have := h4 (i + 1 + 1 * d) (by omega) (by omega)
      simpa using this
    rw [this, hE']; rfl
theorem endOf_is {s : ByteArray} {fl : Bool} {i : Nat} (h : i < s.size) : i < endOf s fl i ∧ endOf s fl i ≤ s.size ∧ ∀ k, i < k → k < endOf s fl i → endsB s k fl = false := by
  cases hf : (List.range' (i + 1) (s.size - (i + 1))).find? (fun k => endsB s k fl) with
  | some E =>
    have e : endOf s fl i = E := by unfold endOf; rw [hf]; rfl
    rw [List.find?_range'_eq_some] at hf
    obtain ⟨_, hm, hn⟩ := hf
    rw [List.mem_range'] at hm
    obtain ⟨d, hd, rfl⟩ := hm
    rw [e]
    exact ⟨by omega, by omega, fun k hk hk' => by have := hn k (by omega) hk'; simpa using this⟩
  | none =>
    have e : endOf s fl i = s.size := by unfold endOf; rw [hf]; rfl
    rw [List.find?_eq_none] at hf
    rw [e]
    refine ⟨h, by omega, fun k hk hk' => ?_⟩
    have := hf k (by rw [List.mem_range']; exact ⟨k - (i + 1), by omega, by omega⟩)
    simpa using this
/-- The first n bytes without the blanks at their end. -/
def tr (s : ByteArray) : Nat → Nat
  | 0 => 0
  | n + 1 => if bt s n = 32 then tr s n else n + 1
theorem tr_le (s : ByteArray) (n : Nat) : tr s n ≤ n := by
  induction n with
  | zero => exact Nat.le_refl _
  | succ n ih => unfold tr; split <;> omega
theorem tr_gt (s : ByteArray) (i n : Nat) (h : bt s i ≠ 32) (hi : i < n) : i < tr s n := by
  induction n with
  | zero => omega
  | succ n ih =>
    unfold tr
    split
    · by_cases e : i = n
      · subst e; contradiction
      · exact ih (by omega)
    · omega
theorem tr_blank (s : ByteArray) (n : Nat) : ∀ j, tr s n ≤ j → j < n → bt s j = 32 := by
  induction n with
  | zero => intro j _ h; omega
  | succ n ih =>
    intro j h1 h2
    unfold tr at h1
    split at h1
    · by_cases e : j = n
      · subst e; assumption
      · exact ih j h1 (by omega)
    · omega
theorem tr_last (s : ByteArray) (n : Nat) (h : 0 < tr s n) : bt s (tr s n - 1) ≠ 32 := by
  induction n with
  | zero => simp [tr] at h
  | succ n ih =>
    unfold tr at h ⊢
    split
    · rename_i hb; rw [if_pos hb] at h; exact ih h
    · simpa
theorem tr_eq (s : ByteArray) (n m : Nat) (h1 : m ≤ n) (h2 : ∀ j, m ≤ j → j < n → bt s j = 32) (h3 : 0 < m → bt s (m - 1) ≠ 32) : tr s n = m := by
  induction n with
  | zero => unfold tr; omega
  | succ n ih =>
    unfold tr
    by_cases e : m = n + 1
    · rw [if_neg (by have := h3 (by omega); rw [e] at this; simpa using this)]; omega
    · rw [if_pos (h2 n (by omega) (by omega))]
      exact ih (by omega) (fun j a b => h2 j a (by omega))
theorem trim_size (s : ByteArray) (E : Nat) (h : E ≤ s.size) : (Lib.trimRightB (s.extract 0 E).data.toList 32).length = tr s E := by
  have hl : (s.extract 0 E).data.toList = s.data.toList.take E := by simp [ByteArray.data_extract]
  have hat : ∀ j b, (s.data.toList.take E)[j]? = some b → j < E ∧ b.toNat = bt s j := by
    intro j b hb
    have hj : j < E := by
      have := (List.getElem?_eq_some_iff.1 hb).1; simp at this; omega
    refine ⟨hj, ?_⟩
    have e := bt_get s j (by omega)
    rw [List.getElem?_take_of_lt hj, List.getElem?_eq_getElem (by simpa using (show j < s.size by omega))] at hb
    rw [← e, ← Option.some.inj hb]; rfl
  have h0 := tr_le s E
  rw [hl, Lib.trimRightB_take _ 32 (tr s E) (by simp; omega)]
  · simp; omega
  · intro j b hj hb
    obtain ⟨h1, h2⟩ := hat j b hb
    have := tr_blank s E j hj h1
    exact UInt8.toNat_inj.1 (by rw [h2, this]; rfl)
  · intro b hp hb e
    obtain ⟨h1, h2⟩ := hat _ b hb
    have := tr_last s E hp
    rw [← h2, e] at this
    exact this rfl
/-- Where the plain text at i ends. -/
def plainE (s : ByteArray) (fl : Bool) (i : Nat) : Nat := tr s (endOf s fl i)
theorem begins_ne {s : ByteArray} {i : Nat} {fl : Bool} (h : beginsB s i fl = true) : bt s i ≠ 32 := by
  intro e; unfold beginsB at h; rw [if_pos e] at h; cases h
end Go.Proofs.YtnnnanemefcmdaaGreatDoor
namespace Go.Proofs.YtnnnanemefcmdaaGreatDoor
open Go.RowKit

/-- The three signs behind which a byte must stand, and what comes of it. -/
theorem begins_three (s : ByteArray) (i : Nat) (fl : Bool) (w : World) (h : i < s.size) (hs : s.size ≤ 4000) (h3 : bt s i = 45 ∨ bt s i = 63 ∨ bt s i = 58) :
    Calls Tryz.prog 93 #[.string s, .int .i64 i, .bool fl] w fun e w' => e = .returned (.bool (beginsB s i fl)) ∧ w = w' := by
  have hp : beginsB s i fl = (decide (i + 1 < s.size) && !cutsB (bt s (i + 1)) fl) := by
    unfold beginsB; rw [if_neg (by omega), if_pos h3]
  have k1 : ((s[i].toNat : Int) == 32) = false := (ne_true (c := 32) h (by omega)).2
  by_cases h2 : i + 1 < s.size
  · have k4 : decide ((i : Int) + 1 < (s.size : Int)) = true := by simp; omega
    have hp2 : beginsB s i fl = !cutsB (bt s (i + 1)) fl := by rw [hp]; simp [h2]
    have HP := Lib.hid hp2
    clear hp hp2
    rcases h3 with h3 | h3 | h3
    · have k2 : ((s[i].toNat : Int) == 45) = true := (eq_true (c := 45) h h3).2
      clear h3
      go_enter Tryz.func93, Tryz.ntmps93
      go_wp2_with fail
      refine (cuts_any _ fl _ (UInt8.toNat_lt _)).mono ?_
      rintro e w' ⟨rfl, rfl⟩
      rw [show cutsB (s[i + 1].toNat) fl = !beginsB s i fl by rw [HP.out, bt_get]; simp]
      go_wp2
      go_ret
      exact ⟨by simp, rfl⟩
    · have k2 : ((s[i].toNat : Int) == 45) = false := (ne_true (c := 45) h (by omega)).2
      have k3 : ((s[i].toNat : Int) == 63) = true := (eq_true (c := 63) h h3).2
      clear h3
      go_enter Tryz.func93, Tryz.ntmps93
      go_wp2_with fail
      refine (cuts_any _ fl _ (UInt8.toNat_lt _)).mono ?_
      rintro e w' ⟨rfl, rfl⟩
      rw [show cutsB (s[i + 1].toNat) fl = !beginsB s i fl by rw [HP.out, bt_get]; simp]
      go_wp2
      go_ret
      exact ⟨by simp, rfl⟩
    · have k2 : ((s[i].toNat : Int) == 45) = false := (ne_true (c := 45) h (by omega)).2
      have k3 : ((s[i].toNat : Int) == 63) = false := (ne_true (c := 63) h (by omega)).2
      have k5 : ((s[i].toNat : Int) == 58) = true := (eq_true (c := 58) h h3).2
      clear h3
      go_enter Tryz.func93, Tryz.ntmps93
      go_wp2_with fail
      refine (cuts_any _ fl _ (UInt8.toNat_lt _)).mono ?_
      rintro e w' ⟨rfl, rfl⟩
      rw [show cutsB (s[i + 1].toNat) fl = !beginsB s i fl by rw [HP.out, bt_get]; simp]
      go_wp2
      go_ret
      exact ⟨by simp, rfl⟩
  · have k4 : decide ((i : Int) + 1 < (s.size : Int)) = false := by simp; omega
    have hp2 : beginsB s i fl = false := by rw [hp]; simp [h2]
    have HP := Lib.hid hp2
    clear hp hp2
    rcases h3 with h3 | h3 | h3
    · have k2 : ((s[i].toNat : Int) == 45) = true := (eq_true (c := 45) h h3).2
      clear h3
      go_enter Tryz.func93, Tryz.ntmps93
      go_wp2
      go_ret
      exact ⟨ret_b HP.out.symm, rfl⟩
    · have k2 : ((s[i].toNat : Int) == 45) = false := (ne_true (c := 45) h (by omega)).2
      have k3 : ((s[i].toNat : Int) == 63) = true := (eq_true (c := 63) h h3).2
      clear h3
      go_enter Tryz.func93, Tryz.ntmps93
      go_wp2
      go_ret
      exact ⟨ret_b HP.out.symm, rfl⟩
    · have k2 : ((s[i].toNat : Int) == 45) = false := (ne_true (c := 45) h (by omega)).2
      have k3 : ((s[i].toNat : Int) == 63) = false := (ne_true (c := 63) h (by omega)).2
      have k5 : ((s[i].toNat : Int) == 58) = true := (eq_true (c := 58) h h3).2
      clear h3
      go_enter Tryz.func93, Tryz.ntmps93
      go_wp2
      go_ret
      exact ⟨ret_b HP.out.symm, rfl⟩

theorem begins_any (s : ByteArray) (i : Nat) (fl : Bool) (w : World) (h : i < s.size) (hs : s.size ≤ 4000) :
    Calls Tryz.prog 93 #[.string s, .int .i64 i, .bool fl] w fun e w' => e = .returned (.bool (beginsB s i fl)) ∧ w = w' := by
  by_cases h3 : bt s i = 45 ∨ bt s i = 63 ∨ bt s i = 58
  · exact begins_three s i fl w h hs h3
  by_cases h32 : bt s i = 32
  · have k1 : ((s[i].toNat : Int) == 32) = true := (eq_true (c := 32) h h32).2
    have HP := Lib.hid (show beginsB s i fl = false by unfold beginsB; rw [if_pos h32])
    clear h32 h3
    go_enter Tryz.func93, Tryz.ntmps93
    go_wp2
    go_ret
    exact ⟨ret_b HP.out.symm, rfl⟩
  · have k1 : ((s[i].toNat : Int) == 32) = false := (ne_true (c := 32) h h32).2
    have k2 : ((s[i].toNat : Int) == 45) = false := (ne_true (c := 45) h (by omega)).2
    have k3 : ((s[i].toNat : Int) == 63) = false := (ne_true (c := 63) h (by omega)).2
    have k5 : ((s[i].toNat : Int) == 58) = false := (ne_true (c := 58) h (by omega)).2
    have HP := Lib.hid (show beginsB s i fl = !opensB (bt s i) by unfold beginsB; rw [if_neg h32, if_neg h3])
    clear h32 h3
    go_enter Tryz.func93, Tryz.ntmps93
    go_wp2_with fail
    refine (opens_any _ _ (UInt8.toNat_lt _)).mono ?_
    rintro e w' ⟨rfl, rfl⟩
    rw [show opensB (s[i].toNat) = !beginsB s i fl by rw [HP.out, bt_get]; simp]
    go_wp2
    go_ret
    exact ⟨by simp, rfl⟩

theorem ends_any (s : ByteArray) (i : Nat) (fl : Bool) (w : World) (h : i < s.size) (h0 : 0 < i) (hs : s.size ≤ 4000) :
    Calls Tryz.prog 94 #[.string s, .int .i64 i, .bool fl] w fun e w' => e = .returned (.bool (endsB s i fl)) ∧ w = w' := by
  by_cases h58 : bt s i = 58
  · have k1 : ((s[i].toNat : Int) == 58) = true := (eq_true (c := 58) h h58).2
    have HP := Lib.hid (show endsB s i fl = partsB s i fl by unfold endsB; rw [if_pos h58])
    clear h58
    go_enter Tryz.func94, Tryz.ntmps94
    go_wp2_with fail
    refine (parts_any s i fl _ h hs).mono ?_
    rintro e w' ⟨rfl, rfl⟩
    go_wp2
    go_ret
    exact ⟨ret_b HP.out.symm, rfl⟩
  have k1 : ((s[i].toNat : Int) == 58) = false := (ne_true (c := 58) h h58).2
  by_cases h35 : bt s i = 35
  · have k2 : ((s[i].toNat : Int) == 35) = true := (eq_true (c := 35) h h35).2
    have hz : i - 1 < s.size := by omega
    have HP := Lib.hid (show endsB s i fl = decide (bt s (i - 1) = 32) by unfold endsB; rw [if_neg h58, if_pos h35])
    have HE := Lib.hid (bt_get s (i - 1) hz)
    clear h58 h35
    go_enter Tryz.func94, Tryz.ntmps94
    go_wp2
    go_ret
    exact ⟨ret_b (by rw [HP.out, ← HE.out, Bool.eq_iff_iff]; simp; omega), rfl⟩
  · have k2 : ((s[i].toNat : Int) == 35) = false := (ne_true (c := 35) h h35).2
    cases fl with
    | false =>
      have HP := Lib.hid (show endsB s i false = false by unfold endsB; rw [if_neg h58, if_neg h35]; rfl)
      clear h58 h35
      go_enter Tryz.func94, Tryz.ntmps94
      go_wp2
      go_ret
      exact ⟨ret_b HP.out.symm, rfl⟩
    | true =>
      have HP := Lib.hid (show endsB s i true = flowB (bt s i) by unfold endsB; rw [if_neg h58, if_neg h35]; simp)
      clear h58 h35
      go_enter Tryz.func94, Tryz.ntmps94
      go_wp2_with fail
      refine (flow_any _ _ (UInt8.toNat_lt _)).mono ?_
      rintro e w' ⟨rfl, rfl⟩
      rw [show flowB (s[i].toNat) = endsB s i true by rw [HP.out, bt_get]]
      go_wp2
      go_ret
      exact ⟨rfl, rfl⟩
end Go.Proofs.YtnnnanemefcmdaaGreatDoor
namespace Go.Proofs.YtnnnanemefcmdaaGreatDoor
open Go.RowKit

theorem ret_ib {a b : Int} {x y : Bool} (h : a = b) (h' : x = y) : Ending.returned (.tuple #[.int .i64 a, .bool x]) = .returned (.tuple #[.int .i64 b, .bool y]) := by rw [h, h']

theorem plain_out (s : ByteArray) (i : Int) (fl : Bool) (w : World) (h : i < 0 ∨ (s.size : Int) ≤ i) (hs : s.size ≤ 4000) :
    Calls Tryz.prog 59 #[.string s, .int .i64 i, .bool fl] w fun e w' => e = .returned (.tuple #[.int .i64 0, .bool false]) ∧ w = w' := by
  rcases h with h | h
  · go_enter Tryz.func59, Tryz.ntmps59
    go_wp2
    go_ret2
    exact ⟨rfl, rfl⟩
  · have h0 : (0 : Int) ≤ i := by omega
    go_enter Tryz.func59, Tryz.ntmps59
    go_wp2
    go_ret2
    exact ⟨rfl, rfl⟩

theorem plain_no (s : ByteArray) (i : Nat) (fl : Bool) (w : World) (h : i < s.size) (hs : s.size ≤ 4000) (hb : Hid (beginsB s i fl = false)) :
    Calls Tryz.prog 59 #[.string s, .int .i64 i, .bool fl] w fun e w' => e = .returned (.tuple #[.int .i64 0, .bool false]) ∧ w = w' := by
  go_enter Tryz.func59, Tryz.ntmps59
  go_wp2_with fail
  refine (begins_any s i fl _ h hs).mono ?_
  rintro e w' ⟨rfl, rfl⟩
  rw [hb.out]
  go_wp2
  go_ret2
  exact ⟨rfl, rfl⟩

set_option maxRecDepth 100000 in
set_option maxHeartbeats 2000000 in
theorem plain_yes (s : ByteArray) (i : Nat) (fl : Bool) (w : World) (h : i < s.size) (hs : s.size ≤ 4000) (hb : Hid (beginsB s i fl = true)) :
    Calls Tryz.prog 59 #[.string s, .int .i64 i, .bool fl] w fun e w' => e = .returned (.tuple #[.int .i64 (plainE s fl i), .bool true]) ∧ w = w' := by
  have key : ∀ (E : Nat), i < E → E ≤ s.size → (E = s.size ∨ endsB s E fl = true) → (∀ k, i < k → k < E → endsB s k fl = false) →
      ∀ L : List UInt8, L = s.data.toList.take E → ((Lib.trimRightB L 32).length : Int) = (plainE s fl i : Int) := by
    intro E a b c d L hL
    have := trim_size s E b
    rw [show (s.extract 0 E).data.toList = L by rw [hL]; simp [ByteArray.data_extract]] at this
    rw [plainE, endOf_eq a b c d, ← this]
  have z1 : decide ((i : Int) < 0) = false := by simp
  have z2 : decide (s.size ≤ i) = false := by simp; omega
  have KEY := Lib.hid key
  clear key
  have hm : (4000 : Nat) ≤ 9223372036854775807 := by omega
  go_enter Tryz.func59, Tryz.ntmps59
  go_wp2_with fail
  refine (begins_any s i fl _ h hs).mono ?_
  rintro e w' ⟨rfl, rfl⟩
  rw [hb.out]
  go_wp2
  go_loop [8, 32] (fun v j => ∃ k : Nat, j = .int .i64 k ∧ v = .int .i64 s.size ∧ i + 1 + k ≤ s.size ∧ Hid (∀ m, i < m → m < i + 1 + k → endsB s m fl = false)) (fun _ j => s.size - i - (intOf j).toNat)
  case atStart => exact ⟨0, rfl, rfl, by omega, Lib.hid (by intro m _ _; omega)⟩
  case round =>
    obtain ⟨k, rfl, rfl, hk, hno⟩ := hrel
    by_cases hlt : i + 1 + k < s.size
    · cases he : endsB s (i + 1 + k) fl with
      | true =>
        have HE := Lib.hid he
        clear he
        go_wp2_with fail
        refine (ends_any s (i + 1 + k) fl _ hlt (by omega) hs).mono ?_
        rintro e w' ⟨rfl, rfl⟩
        rw [HE.out]
        go_wp2_with fail
        refine (Tryz.strings_TrimRight_one _ 32 (by decide) _ (by first | omega | (simp; omega))).mono ?_
        rintro e w' ⟨rfl, rfl⟩
        have hsz := Lib.hid (KEY.out (i + 1 + k) (by omega) (by omega) (.inr HE.out) (fun m a b => hno.out m a b) _ rfl)
        go_wp2
        go_ret2
        exact ⟨ret_ib hsz.out rfl, rfl⟩
      | false =>
        have HE := Lib.hid he
        clear he
        go_wp2_with fail
        refine (ends_any s (i + 1 + k) fl _ hlt (by omega) hs).mono ?_
        rintro e w' ⟨rfl, rfl⟩
        rw [HE.out]
        go_wp2
        go_round
        case rel => exact ⟨k + 1, by go_num, rfl, by omega, Lib.hid (by
          intro m a b
          by_cases e : m = i + 1 + k
          · rw [e]; exact HE.out
          · exact hno.out m a (by omega))⟩
        case measure => simp [intOf]; omega
    · have HZ := Lib.hid (KEY.out s.size h (by omega) (.inl rfl) (fun m a b => hno.out m a (by omega)) s.data.toList (by rw [List.take_of_length_le (by simp)]))
      go_wp2_with fail
      refine (Tryz.strings_TrimRight_one _ 32 (by decide) _ (by first | omega | (simp; omega))).mono ?_
      rintro e w' ⟨rfl, rfl⟩
      go_wp2
      go_ret2
      exact ⟨ret_ib HZ.out rfl, rfl⟩
end Go.Proofs.YtnnnanemefcmdaaGreatDoor
namespace Go.Proofs
open Go.Shelf Go.RowKit

def Tryz.bldRen : Go.Shelf.Ren := ⟨fun | 240 => 80 | 276 => 105 | 166 => 53 | 167 => 50 | 168 => 69 | 242 => 103 | 278 => 124 | n => n, fun | 0 => 0 | 3 => 3 | 4 => 4 | 5 => 5 | 9 => 9 | 20 => 20 | 21 => 21 | 37 => 52 | 46 => 118 | 51 => 134 | 70 => 78 | 72 => 80 | 75 => 84 | 80 => 82 | 164 => 130 | n => n, fun | n => n⟩
theorem Tryz.bld240 : Go.Proofs.Lays.n240 Tryz.prog Tryz.bldRen := {
  mixed := by kernel_rfl
  f240 := Tryz.func80.trans (congrArg some (by kernel_rfl))
  f276 := Tryz.func105.trans (congrArg some (by kernel_rfl))
  t0 := Tryz.underlying0
  a0 := Tryz.isAgg0
  z0 := Tryz.sizeOf0
  v0 := Tryz.zeroValue0
  t4 := Tryz.underlying4
  a4 := Tryz.isAgg4
  z4 := Tryz.sizeOf4
  v4 := Tryz.zeroValue4
  t9 := Tryz.underlying9
  a9 := Tryz.isAgg9
  z9 := Tryz.sizeOf9
  v9 := Tryz.zeroValue9
  t20 := Tryz.underlying20
  a20 := Tryz.isAgg20
  z20 := Tryz.sizeOf20
  v20 := Tryz.zeroValue20
  t70 := Tryz.underlying78
  a70 := Tryz.isAgg78
  z70 := Tryz.sizeOf78
  v70 := Tryz.zeroValue78
  t72 := Tryz.underlying80
  a72 := Tryz.isAgg80
  z72 := Tryz.sizeOf80
  v72 := Tryz.zeroValue80
  t164 := Tryz.underlying130
  a164 := Tryz.isAgg130
  z164 := Tryz.sizeOf130
  v164 := Tryz.zeroValue130 }
theorem Tryz.bld166 : Go.Proofs.Lays.n166 Tryz.prog Tryz.bldRen := {
  mixed := by kernel_rfl
  f166 := Tryz.func53.trans (congrArg some (by kernel_rfl))
  f240 := Tryz.func80.trans (congrArg some (by kernel_rfl))
  f276 := Tryz.func105.trans (congrArg some (by kernel_rfl))
  t0 := Tryz.underlying0
  a0 := Tryz.isAgg0
  z0 := Tryz.sizeOf0
  v0 := Tryz.zeroValue0
  t3 := Tryz.underlying3
  a3 := Tryz.isAgg3
  z3 := Tryz.sizeOf3
  v3 := Tryz.zeroValue3
  t4 := Tryz.underlying4
  a4 := Tryz.isAgg4
  z4 := Tryz.sizeOf4
  v4 := Tryz.zeroValue4
  t9 := Tryz.underlying9
  a9 := Tryz.isAgg9
  z9 := Tryz.sizeOf9
  v9 := Tryz.zeroValue9
  t20 := Tryz.underlying20
  a20 := Tryz.isAgg20
  z20 := Tryz.sizeOf20
  v20 := Tryz.zeroValue20
  t37 := Tryz.underlying52
  a37 := Tryz.isAgg52
  z37 := Tryz.sizeOf52
  v37 := Tryz.zeroValue52
  t70 := Tryz.underlying78
  a70 := Tryz.isAgg78
  z70 := Tryz.sizeOf78
  v70 := Tryz.zeroValue78
  t72 := Tryz.underlying80
  a72 := Tryz.isAgg80
  z72 := Tryz.sizeOf80
  v72 := Tryz.zeroValue80
  t75 := Tryz.underlying84
  a75 := Tryz.isAgg84
  z75 := Tryz.sizeOf84
  v75 := Tryz.zeroValue84
  t164 := Tryz.underlying130
  a164 := Tryz.isAgg130
  z164 := Tryz.sizeOf130
  v164 := Tryz.zeroValue130 }
theorem Tryz.bld167 : Go.Proofs.Lays.n167 Tryz.prog Tryz.bldRen := {
  mixed := by kernel_rfl
  f167 := Tryz.func50.trans (congrArg some (by kernel_rfl))
  f240 := Tryz.func80.trans (congrArg some (by kernel_rfl))
  f276 := Tryz.func105.trans (congrArg some (by kernel_rfl))
  t0 := Tryz.underlying0
  a0 := Tryz.isAgg0
  z0 := Tryz.sizeOf0
  v0 := Tryz.zeroValue0
  t4 := Tryz.underlying4
  a4 := Tryz.isAgg4
  z4 := Tryz.sizeOf4
  v4 := Tryz.zeroValue4
  t5 := Tryz.underlying5
  a5 := Tryz.isAgg5
  z5 := Tryz.sizeOf5
  v5 := Tryz.zeroValue5
  t9 := Tryz.underlying9
  a9 := Tryz.isAgg9
  z9 := Tryz.sizeOf9
  v9 := Tryz.zeroValue9
  t20 := Tryz.underlying20
  a20 := Tryz.isAgg20
  z20 := Tryz.sizeOf20
  v20 := Tryz.zeroValue20
  t37 := Tryz.underlying52
  a37 := Tryz.isAgg52
  z37 := Tryz.sizeOf52
  v37 := Tryz.zeroValue52
  t70 := Tryz.underlying78
  a70 := Tryz.isAgg78
  z70 := Tryz.sizeOf78
  v70 := Tryz.zeroValue78
  t72 := Tryz.underlying80
  a72 := Tryz.isAgg80
  z72 := Tryz.sizeOf80
  v72 := Tryz.zeroValue80
  t75 := Tryz.underlying84
  a75 := Tryz.isAgg84
  z75 := Tryz.sizeOf84
  v75 := Tryz.zeroValue84
  t164 := Tryz.underlying130
  a164 := Tryz.isAgg130
  z164 := Tryz.sizeOf130
  v164 := Tryz.zeroValue130 }
theorem Tryz.bld168 : Go.Proofs.Lays.n168 Tryz.prog Tryz.bldRen := {
  mixed := by kernel_rfl
  f168 := Tryz.func69.trans (congrArg some (by kernel_rfl))
  f240 := Tryz.func80.trans (congrArg some (by kernel_rfl))
  f242 := Tryz.func103.trans (congrArg some (by kernel_rfl))
  f276 := Tryz.func105.trans (congrArg some (by kernel_rfl))
  f278 := Tryz.func124.trans (congrArg some (by kernel_rfl))
  t0 := Tryz.underlying0
  a0 := Tryz.isAgg0
  z0 := Tryz.sizeOf0
  v0 := Tryz.zeroValue0
  t3 := Tryz.underlying3
  a3 := Tryz.isAgg3
  z3 := Tryz.sizeOf3
  v3 := Tryz.zeroValue3
  t4 := Tryz.underlying4
  a4 := Tryz.isAgg4
  z4 := Tryz.sizeOf4
  v4 := Tryz.zeroValue4
  t5 := Tryz.underlying5
  a5 := Tryz.isAgg5
  z5 := Tryz.sizeOf5
  v5 := Tryz.zeroValue5
  t9 := Tryz.underlying9
  a9 := Tryz.isAgg9
  z9 := Tryz.sizeOf9
  v9 := Tryz.zeroValue9
  t20 := Tryz.underlying20
  a20 := Tryz.isAgg20
  z20 := Tryz.sizeOf20
  v20 := Tryz.zeroValue20
  t21 := Tryz.underlying21
  a21 := Tryz.isAgg21
  z21 := Tryz.sizeOf21
  v21 := Tryz.zeroValue21
  t37 := Tryz.underlying52
  a37 := Tryz.isAgg52
  z37 := Tryz.sizeOf52
  v37 := Tryz.zeroValue52
  t46 := Tryz.underlying118
  a46 := Tryz.isAgg118
  z46 := Tryz.sizeOf118
  v46 := Tryz.zeroValue118
  t51 := Tryz.underlying134
  a51 := Tryz.isAgg134
  z51 := Tryz.sizeOf134
  v51 := Tryz.zeroValue134
  t70 := Tryz.underlying78
  a70 := Tryz.isAgg78
  z70 := Tryz.sizeOf78
  v70 := Tryz.zeroValue78
  t72 := Tryz.underlying80
  a72 := Tryz.isAgg80
  z72 := Tryz.sizeOf80
  v72 := Tryz.zeroValue80
  t75 := Tryz.underlying84
  a75 := Tryz.isAgg84
  z75 := Tryz.sizeOf84
  v75 := Tryz.zeroValue84
  t164 := Tryz.underlying130
  a164 := Tryz.isAgg130
  z164 := Tryz.sizeOf130
  v164 := Tryz.zeroValue130 }
theorem Tryz.bldX : Builder.Extra Tryz.prog Tryz.bldRen := {
  sizeBuilder := by kernel_rfl
  liesBuilder := by kernel_rfl
  t5 := Tryz.underlying5
  a5 := Tryz.isAgg5
  z5 := Tryz.sizeOf5
  v5 := Tryz.zeroValue5
  infoByte := by kernel_rfl
  cellsByte := by kernel_rfl
  sizeByte := by kernel_rfl
  neB5 := by decide }
theorem Tryz.Builder_WriteByte_k (B b : Nat) (bs : List Value) (c : Int) (w : World) (h : Lib.IsBuilderF 80 5 B b bs w) (hlen : bs.length + 1 ≤ 140737488355328) (hBw : B ≤ w.heap.size) :
    Calls Tryz.prog 50 #[.pointer (some ⟨b, 0, none⟩), .int .u8 c] w fun e w' => e = .returned .nilIface ∧ (Lib.BuilderAtF 80 5 B b (.pointer (some ⟨b, 0, none⟩)) (bs ++ [.int .u8 c]) w' ∧ Below B w w' ∧ Lib.OthersKept 5 (some b) w w') :=
  Any.Builder_WriteByte_k Tryz.bld167 Tryz.bldX B b bs c w h hlen hBw
theorem Tryz.Builder_WriteString_k (B b : Nat) (bs : List Value) (s : ByteArray) (w : World) (h : Lib.IsBuilderF 80 5 B b bs w) (hlen : bs.length + s.size ≤ 140737488355328) (hBw : B ≤ w.heap.size) :
    Calls Tryz.prog 53 #[.pointer (some ⟨b, 0, none⟩), .string s] w fun e w' => e = .returned (.tuple #[.int .i64 s.size, .nilIface]) ∧ (Lib.BuilderAtF 80 5 B b (.pointer (some ⟨b, 0, none⟩)) (bs ++ Lib.strCells s) w' ∧ Below B w w' ∧ Lib.OthersKept 5 (some b) w w') :=
  Any.Builder_WriteString_k Tryz.bld166 Tryz.bldX B b bs s w h hlen hBw
theorem Tryz.Builder_WriteRune_k (B b : Nat) (bs : List Value) (r : Int) (hr0 : -2147483648 ≤ r) (hr1 : r ≤ 2147483647) (w : World) (h : Lib.IsBuilderF 80 5 B b bs w) (hlen : bs.length + 4 ≤ 140737488355328) (hBw : B ≤ w.heap.size) :
    Calls Tryz.prog 69 #[.pointer (some ⟨b, 0, none⟩), .int .i32 r] w fun e w' => e = .returned (.tuple #[.int .i64 (Lib.runeCells r).length, .nilIface]) ∧ (Lib.BuilderAtF 80 5 B b (.pointer (some ⟨b, 0, none⟩)) (bs ++ Lib.runeCells r) w' ∧ Below B w w' ∧ Lib.OthersKept 5 (some b) w w') :=
  Any.Builder_WriteRune_k Tryz.bld168 Tryz.bldX B b bs r hr0 hr1 w h hlen hBw
end Go.Proofs
namespace Go.Proofs.YtnnnanemefcmdaaGreatDoor
open Go.RowKit

theorem bldF_below {T e : TypeId} {B b : Nat} {p : Value} {bs : List Value} {w w' : World} (h : Lib.BuilderAtF T e B b p bs w) (hb : Below w.heap.size w w') : Lib.BuilderAtF T e B b p bs w' := by
  obtain ⟨hB, v, hv, hown, hne⟩ := h
  refine ⟨hB, v, (hb.block b (Array.getElem?_eq_some_iff.1 hv).1).trans hv, ⟨hown.1, ?_⟩, hne⟩
  rcases hown.2 with hn | ⟨g, cap, cur, fz, h1, h2, h3, rest⟩
  · exact .inl hn
  · exact .inr ⟨g, cap, cur, fz, h1, h2, (hb.block g (Array.getElem?_eq_some_iff.1 h3).1).trans h3, rest⟩
theorem isB_below {T e : TypeId} {B b : Nat} {bs : List Value} {w w' : World} (h : Lib.IsBuilderF T e B b bs w) (hb : Below w.heap.size w w') : Lib.IsBuilderF T e B b bs w' :=
  h.elim (fun x => .inl (bldF_below x hb)) (fun x => .inr (bldF_below x hb))
theorem isB_lt {T e : TypeId} {B b : Nat} {bs : List Value} {w : World} (h : Lib.IsBuilderF T e B b bs w) : b < w.heap.size := by
  rcases h with ⟨_, v, hv, _⟩ | ⟨_, v, hv, _⟩ <;> exact (Array.getElem?_eq_some_iff.1 hv).1
theorem dcN_dec (s : ByteArray) (i : Nat) : dcN s i = Utf8.decode s i := by
  have hp := wd_pos s i
  unfold dcN chr
  by_cases h : Utf8.decode s i = (65533, 1)
  · rw [if_pos h, if_pos rfl, h]
  · rw [if_neg h]
    unfold wd at hp
    rw [if_neg (by omega)]
theorem dec_range (s : ByteArray) (i : Nat) (h : i < s.size) : (Utf8.decode s i).1 ≤ 1114111 ∧ ¬ (55296 ≤ (Utf8.decode s i).1 ∧ (Utf8.decode s i).1 ≤ 57343) := by
  by_cases hm : (chr s i).2 = 0
  · have := dcN_dec s i
    unfold dcN at this
    rw [if_pos hm] at this
    rw [← this]; simp
  · obtain ⟨_, _, h1, h2⟩ := chr_enc h rfl hm
    have := dcN_dec s i
    unfold dcN at this
    rw [if_neg hm] at this
    rw [← this]; exact ⟨h1, h2⟩

set_option maxRecDepth 100000 in
set_option maxHeartbeats 4000000 in
theorem double_any (s : ByteArray) (w : World) (hs : s.size ≤ 100000) (ht : TzCell w) :
    Calls Tryz.prog 21 #[.string s] w fun e w' => e = .returned (.string ⟨(wdL s).toArray⟩) ∧ Below w.heap.size w w' := by
  have hI0 := Lib.IsBuilderF.of (Lib.fresh_isBuilder 80 5 w)
  go_enter Tryz.func21, Tryz.ntmps21
  go_wp2_with (go_at_call 50; refine (Tryz.Builder_WriteByte_k w.heap.size w.heap.size _ 34 _ hI0 (by simp) (by simp)).mono ?_)
  rintro e w1 ⟨rfl, h1, b1, _⟩
  have hb1 : Below w.heap.size w w1 := ((Below.refl _ w).alloc (Nat.le_refl _) _).trans b1
  have hI1 : Lib.IsBuilderF 80 5 w.heap.size w.heap.size (Lib.byteCells [34]) w1 := .inr h1
  have hl1 := isB_lt hI1
  clear h1 b1 hI0
  go_wp2
  go_loopw [] (fun wr => ∃ (pos f : Nat) (o : List UInt8), Lib.IsBuilderF 80 5 w.heap.size w.heap.size (Lib.byteCells o) wr ∧ wr.heap[w1.heap.size]? = some (.stringIter s pos) ∧ Below w.heap.size w wr ∧ Hid (o ++ wdF s f pos = 34 :: wdF s s.size 0) ∧ pos ≤ s.size ∧ s.size ≤ pos + f ∧ o.length ≤ 6 * pos + 1) (fun wr => s.size - wr.iterPos w1.heap.size)
  case atStart =>
    exact ⟨0, s.size, [34], hI1.alloc _, World.iter_heap w1 s 0, hb1.alloc hb1.size _, Lib.hid rfl, by omega, by omega, by simp⟩
  case round =>
    obtain ⟨pos, f, o, hI, hit, hbw, hp, hps, hf, hol⟩ := hrel
    have hsz : w1.heap.size < wr.heap.size := (Array.getElem?_eq_some_iff.1 hit).1
    by_cases hlt : pos < s.size
    · obtain ⟨f, rfl⟩ : ∃ g, f = g + 1 := ⟨f - 1, by omega⟩
      have hnx : ∀ ty, (Instr.next (.pointer (some ⟨w1.heap.size, 0, none⟩)) true ty).run Tryz.prog wr = _ := fun ty => Lib.run_next_any_at wr w1.heap.size s pos ty hit hlt
      obtain ⟨r1, r2⟩ := dec_range s pos hlt
      have hw1 := wd_pos s pos
      have hw := wd_le s pos hlt
      have HP := Lib.hid (show o ++ escW (Utf8.decode s pos).1 ++ wdF s f (pos + (Utf8.decode s pos).2) = 34 :: wdF s s.size 0 by
        rw [← hp.out, wdF_step (c := (Utf8.decode s pos).1) (m := (Utf8.decode s pos).2) hlt (dcN_dec s pos), List.append_assoc])
      unfold wd at hw hw1
      have hI2 := hI.iterAt hit (pos + (Utf8.decode s pos).2)
      have hit2 := Lib.iterAt_heap wr w1.heap.size s pos (pos + (Utf8.decode s pos).2) hit
      have hbw2 := Lib.below_iterAt hbw (k := w1.heap.size) (by omega) s (pos + (Utf8.decode s pos).2)
      have hsz2 : w.heap.size ≤ (wr.iterAt w1.heap.size s (pos + (Utf8.decode s pos).2)).heap.size := by rw [Lib.iterAt_size]; omega
      have hsz3 : w1.heap.size < (wr.iterAt w1.heap.size s (pos + (Utf8.decode s pos).2)).heap.size := by rw [Lib.iterAt_size]; omega
      have ht2 := tz_below ht hbw2
      clear hp
      go_wp2_with fail
      refine (written_any (Utf8.decode s pos).1 _ r1 r2 ht2).mono ?_
      rintro e w2 ⟨rfl, hb2⟩
      have hI3 := isB_below hI2 hb2
      have hit3 := (hb2.block w1.heap.size hsz3).trans hit2
      have hbw3 := hbw2.trans (hb2.mono hsz2)
      have hsz4 : w.heap.size ≤ w2.heap.size := hbw3.size
      have hl6 := escW_len (Utf8.decode s pos).1
      go_wp2_with (go_at_call 53; refine (Tryz.Builder_WriteString_k w.heap.size w.heap.size _ ⟨(escW (Utf8.decode s pos).1).toArray⟩ _ hI3 (by rw [Lib.byteCells_length]; show o.length + (escW (Utf8.decode s pos).1).length ≤ _; omega) hsz4).mono ?_)
      rintro e w3 ⟨rfl, h3, b3, k3⟩
      go_wp2
      go_roundw
      case rel =>
        refine ⟨pos + (Utf8.decode s pos).2, f, o ++ escW (Utf8.decode s pos).1, ?_, k3.iter hit3 (by omega), hbw3.trans b3, HP, by omega, by omega, by rw [List.length_append]; omega⟩
        rw [Lib.byteCells_append]; exact Or.inr h3
      case measure =>
        simp only [World.iterPos, k3.iter hit3 (by omega), hit]
        omega
    · have hnx : ∀ ty, (Instr.next (.pointer (some ⟨w1.heap.size, 0, none⟩)) true ty).run Tryz.prog wr = _ := fun ty => Lib.run_next_end_at wr w1.heap.size s pos ty hit hlt
      have hsz0 : w.heap.size ≤ wr.heap.size := hbw.size
      go_wp2_with (go_at_call 50; refine (Tryz.Builder_WriteByte_k w.heap.size w.heap.size _ 34 _ hI (by rw [Lib.byteCells_length]; omega) hsz0).mono ?_)
      rintro e w2 ⟨rfl, h2, b2, _⟩
      have hI2 : Lib.IsBuilderF 80 5 w.heap.size w.heap.size (Lib.byteCells (o ++ [34])) w2 := by rw [Lib.byteCells_append]; exact .inr h2
      have hbw2 := hbw.trans b2
      clear h2
      go_wp2_with (go_at_call 49; refine (Tryz.Builder_String_any_k w.heap.size w.heap.size (o ++ [34]) _ hI2 hbw2.size).mono ?_)
      rintro e w3 ⟨rfl, _, b3, _⟩
      have HW := Lib.hid (show o ++ [34] = wdL s by
        have := hp.out
        rw [wdF_end s f pos (by omega), List.append_nil] at this
        rw [this]; rfl)
      clear hp
      go_wp2
      refine bodyPost_ret (v := .string ⟨(o ++ [34]).toArray⟩) (by simp [results, Tryz.results21, go_sem]) rfl ⟨by rw [HW.out], hbw2.trans b3⟩
end Go.Proofs.YtnnnanemefcmdaaGreatDoor
namespace Go.Proofs.YtnnnanemefcmdaaGreatDoor
open Go.RowKit

theorem stands_neg (s : ByteArray) (i : Int) (m : Nat) (w : World) (h : i < 0) :
    Calls Tryz.prog 46 #[.string s, .int .i64 i, .int .u8 m] w fun e w' => e = .returned (.bool false) ∧ w = w' := by
  have d1 : decide (0 ≤ i) = false := decide_eq_false (by omega)
  go_enter Tryz.func46, Tryz.ntmps46
  go_wp2
  go_ret
  exact ⟨rfl, rfl⟩
theorem stands_past (s : ByteArray) (i : Int) (m : Nat) (w : World) (h : (s.size : Int) ≤ i) :
    Calls Tryz.prog 46 #[.string s, .int .i64 i, .int .u8 m] w fun e w' => e = .returned (.bool false) ∧ w = w' := by
  have h0 : 0 ≤ i := by omega
  have d1 : decide (0 ≤ i) = true := decide_eq_true h0
  have d2 : decide (i < (s.size : Int)) = false := decide_eq_false (by omega)
  go_enter Tryz.func46, Tryz.ntmps46
  go_wp2
  go_ret
  exact ⟨rfl, rfl⟩
theorem stands_in (s : ByteArray) (i : Nat) (m : Nat) (w : World) (h : i < s.size) :
    Calls Tryz.prog 46 #[.string s, .int .i64 i, .int .u8 m] w fun e w' => e = .returned (.bool (decide (bt s i = m))) ∧ w = w' := by
  have hg := bt_get s i h
  have HG := Lib.hid (show decide (bt s i = m) = ((s[i].toNat : Int) == (m : Int)) by
    rw [← hg]
    rw [Bool.eq_iff_iff]; simp; omega)
  clear hg
  go_enter Tryz.func46, Tryz.ntmps46
  go_wp2
  go_ret
  exact ⟨ret_bool HG.out.symm, rfl⟩
/-- Does the mark stand there? -/
def stB (s : ByteArray) (i m : Nat) : Bool := decide (i < s.size ∧ bt s i = m)
theorem stands_any (s : ByteArray) (i m : Nat) (w : World) :
    Calls Tryz.prog 46 #[.string s, .int .i64 i, .int .u8 m] w fun e w' => e = .returned (.bool (stB s i m)) ∧ w = w' := by
  unfold stB
  by_cases h : i < s.size
  · rw [show decide (i < s.size ∧ bt s i = m) = decide (bt s i = m) by simp [h]]
    exact stands_in s i m w h
  · rw [show decide (i < s.size ∧ bt s i = m) = false by simp [h]]
    exact stands_past s i m w (by omega)

set_option maxRecDepth 100000 in
set_option maxHeartbeats 1000000 in
theorem wrong_any (c p : Int) (w : World) :
    Calls Tryz.prog 47 #[.int .i64 c, .int .i64 p] w fun e w' => e = .returned (.tuple #[.string ⟨#[]⟩, .int .i64 0, .agg #[.int .i64 c, .int .i64 p]]) ∧ Below w.heap.size w w' := by
  go_enter Tryz.func47, Tryz.ntmps47
  go_wp2
  refine bodyPost_ret (v := .tuple #[.string ⟨#[]⟩, .int .i64 0, .agg #[.int .i64 c, .int .i64 p]]) (by simp [results, Tryz.results47, go_sem]) rfl ⟨rfl, ?_⟩
  exact (((Below.refl _ _).alloc (Nat.le_refl _) _))

def gotT (l : List UInt8) (p n : Int) : Value := if 1024 < l.length then .tuple #[.string ⟨#[]⟩, .int .i64 0, .agg #[.int .i64 5, .int .i64 p]] else .tuple #[.string ⟨l.toArray⟩, .int .i64 n, .agg #[.int .i64 0, .int .i64 0]]
set_option maxRecDepth 100000 in
set_option maxHeartbeats 1000000 in
theorem read_any (l : List UInt8) (p n : Int) (w : World) (hl : l.length ≤ 1000000) :
    Calls Tryz.prog 48 #[.string ⟨l.toArray⟩, .int .i64 p, .int .i64 n] w fun e w' => e = .returned (gotT l p n) ∧ Below w.heap.size w w' := by
  have hz : (⟨l.toArray⟩ : ByteArray).size = l.length := rfl
  by_cases h : 1024 < l.length
  · have HG := Lib.hid (show gotT l p n = .tuple #[.string ⟨#[]⟩, .int .i64 0, .agg #[.int .i64 5, .int .i64 p]] by unfold gotT; rw [if_pos h])
    go_enter Tryz.func48, Tryz.ntmps48
    go_wp2_with fail
    refine (wrong_any _ _ _).mono ?_
    rintro e w1 ⟨rfl, hb⟩
    have hr1 := (hb.block w.heap.size (by simp)).trans (heap_alloc_new w _)
    have rc0 := cell_heap4 hr1 0 _ rfl
    have rc1 := cell_heap4 hr1 1 _ rfl
    have rf0 := free_heap4 hr1 0
    have rf1 := free_heap4 hr1 1
    have hB := ((Below.refl w.heap.size w).alloc (Nat.le_refl _) _).trans (hb.mono (by simp))
    clear hr1 hb
    go_wp2
    refine bodyPost_ret (v := .tuple #[.string ⟨#[]⟩, .int .i64 0, .agg #[.int .i64 5, .int .i64 p]]) (by simp [results, Tryz.results48, go_sem, rc0, rc1]) rfl ⟨by rw [HG.out], ?_⟩
    exact (hB.setCell (p := ⟨w.heap.size, 0, none⟩) (Nat.le_refl _) _).setCell (p := ⟨w.heap.size, 1, none⟩) (Nat.le_refl _) _
  · have HG := Lib.hid (show gotT l p n = .tuple #[.string ⟨l.toArray⟩, .int .i64 n, .agg #[.int .i64 0, .int .i64 0]] by unfold gotT; rw [if_neg h])
    have h' : l.length ≤ 1024 := by omega
    clear h
    go_enter Tryz.func48, Tryz.ntmps48
    go_wp2
    refine bodyPost_ret (v := .tuple #[.string ⟨l.toArray⟩, .int .i64 n, .agg #[.int .i64 0, .int .i64 0]]) (by simp [results, Tryz.results48, go_sem]) rfl ⟨by rw [HG.out], ?_⟩
    exact (Below.refl _ _).alloc (Nat.le_refl _) _

/-- What ReadSingle answers where the first mark stands. -/
def sglT (s : ByteArray) (p : Nat) : Value := match rdS s s.size (p + 1) with
  | some (l, n) => gotT l p n
  | none => .tuple #[.string ⟨#[]⟩, .int .i64 0, .agg #[.int .i64 3, .int .i64 s.size]]
set_option maxRecDepth 100000 in
set_option maxHeartbeats 4000000 in
theorem readSingle_no (s : ByteArray) (p : Int) (w : World) (h : p < 0 ∨ (s.size : Int) ≤ p ∨ ∃ (i : Nat) (_ : i < s.size), p = i ∧ bt s i ≠ 39) :
    Calls Tryz.prog 19 #[.string s, .int .i64 p] w fun e w' => e = .returned (.tuple #[.string ⟨#[]⟩, .int .i64 0, .agg #[.int .i64 3, .int .i64 p]]) ∧ Below w.heap.size w w' := by
  have HST : ∀ w : World, Calls Tryz.prog 46 #[.string s, .int .i64 p, .int .u8 39] w fun e w' => e = .returned (.bool false) ∧ w = w' := by
    intro w
    rcases h with h | h | ⟨i, hi, rfl, hb⟩
    · exact stands_neg s p 39 w h
    · exact stands_past s p 39 w h
    · have := stands_in s i 39 w hi
      rwa [decide_eq_false hb] at this
  clear h
  go_enter Tryz.func19, Tryz.ntmps19
  go_wp2_with fail
  refine (HST _).mono ?_
  rintro e w0 ⟨rfl, rfl⟩
  go_wp2_with fail
  refine (wrong_any _ _ _).mono ?_
  rintro e w1 ⟨rfl, hb⟩
  have hr1 := (hb.block w.heap.size (by simp)).trans (heap_alloc_new w _)
  have rc0 := cell_heap4 hr1 0 _ rfl
  have rc1 := cell_heap4 hr1 1 _ rfl
  have rf0 := free_heap4 hr1 0
  have rf1 := free_heap4 hr1 1
  have hB := ((Below.refl w.heap.size w).alloc (Nat.le_refl _) _).trans (hb.mono (by simp))
  clear hr1 hb
  go_wp2
  refine bodyPost_ret (v := .tuple #[.string ⟨#[]⟩, .int .i64 0, .agg #[.int .i64 3, .int .i64 p]]) (by simp [results, Tryz.results19, go_sem, rc0, rc1]) rfl ⟨rfl, ?_⟩
  exact (hB.setCell (p := ⟨w.heap.size, 0, none⟩) (Nat.le_refl _) _).setCell (p := ⟨w.heap.size, 1, none⟩) (Nat.le_refl _) _
set_option maxRecDepth 100000 in
set_option maxHeartbeats 8000000 in
theorem readSingle_yes (s : ByteArray) (p : Nat) (w : World) (hs : s.size ≤ 100000) (hp0 : p < s.size) (h39 : bt s p = 39) :
    Calls Tryz.prog 19 #[.string s, .int .i64 p] w fun e w' => e = .returned (sglT s p) ∧ Below w.heap.size w w' := by
  have HST := stands_any s p 39
  have hst : stB s p 39 = true := decide_eq_true ⟨hp0, h39⟩
  rw [hst] at HST
  have hI0 := Lib.IsBuilderF.of (Lib.fresh_isBuilder 80 5 (w.alloc (.cells #[.int .i64 0, .int .i64 0] 27)))
  have hz1 : (w.alloc (.cells #[.int .i64 0, .int .i64 0] 27)).heap.size = w.heap.size + 1 := by simp
  rw [hz1] at hI0
  clear hst h39
  go_enter Tryz.func19, Tryz.ntmps19
  go_wp2_with fail
  refine (HST _).mono ?_
  rintro e w0 ⟨rfl, rfl⟩
  clear HST
  go_wp2
  go_loopw [8] (fun j wr => ∃ (i f : Nat) (o : List UInt8), j = .int .i64 i ∧ i ≤ s.size ∧ s.size ≤ i + f ∧ o.length ≤ i ∧ Hid (pre o (rdS s f i) = rdS s s.size (p + 1)) ∧ Lib.IsBuilderF 80 5 (w.heap.size + 1) (w.heap.size + 1) (Lib.byteCells o) wr ∧ Below w.heap.size w wr ∧ Hid (wr.heap[w.heap.size]? = some (.cells #[.int .i64 0, .int .i64 0] 27)) ∧ w.heap.size + 1 < wr.heap.size) (fun j _ => s.size - (intOf j).toNat)
  case atStart => exact ⟨p + 1, s.size, [], by go_num, by omega, by omega, by simp, Lib.hid (by cases rdS s s.size (p + 1) <;> simp [pre]), hI0, ((Below.refl _ _).alloc (Nat.le_refl _) _).alloc (by simp) _, Lib.hid ((Lib.alloc_old _ _ _ (by simp)).trans (heap_alloc_new w _)), by simp⟩
  case round =>
    obtain ⟨i, f, o, rfl, hi', hf, hol, hpp, hI, hb, hres, hwl1⟩ := hrel
    have hwl : w.heap.size < wr.heap.size := by omega
    by_cases hlt : i < s.size
    · obtain ⟨f, rfl⟩ : ∃ g, f = g + 1 := ⟨f - 1, by omega⟩
      have hsz0 : w.heap.size + 1 ≤ wr.heap.size := by omega
      by_cases h39 : bt s i = 39
      · have q1 : ((s[i].toNat : Int) == 39) = true := by
          have e := bt_get s i hlt
          simp only [beq_iff_eq]; omega
        by_cases hn : i + 1 < s.size ∧ bt s (i + 1) = 39
        · obtain ⟨hn1, hn2⟩ := hn
          have HST := stands_any s (i + 1) 39
          have hst : stB s (i + 1) 39 = true := decide_eq_true ⟨hn1, hn2⟩
          rw [hst] at HST
          have hg2 := bt_get s (i + 1) hn1
          have e39 : s[i + 1] = 39 := UInt8.toNat_inj.1 (by rw [hg2, hn2]; rfl)
          have HP := Lib.hid (show pre (o ++ [s[i + 1]]) (rdS s f (i + 2)) = rdS s s.size (p + 1) by
            rw [← hpp.out, rdS_two hlt h39 hn1 hn2, pre_pre, e39])
          clear hst hpp h39 hn2 hg2 e39
          go_wp2_with fail
          refine (HST _).mono ?_
          rintro e w1 ⟨rfl, rfl⟩
          clear HST
          go_wp2_with (go_at_call 50; refine (Tryz.Builder_WriteByte_k (w.heap.size + 1) (w.heap.size + 1) _ _ _ hI (by rw [Lib.byteCells_length]; omega) hsz0).mono ?_)
          rintro e w2 ⟨rfl, h2, b2, _⟩
          have hI2 : Lib.IsBuilderF 80 5 (w.heap.size + 1) (w.heap.size + 1) (Lib.byteCells (o ++ [s[i + 1]])) w2 := by rw [Lib.byteCells_append]; exact .inr h2
          have hb2 := hb.trans (b2.mono (Nat.le_succ _))
          have hres2 := Lib.hid ((b2.block w.heap.size (Nat.lt_succ_self _)).trans hres.out)
          have hw2 : w.heap.size + 1 < w2.heap.size := isB_lt hI2
          clear b2 h2 hres hI hb
          go_wp2
          go_roundw
          case rel => exact ⟨i + 2, f, o ++ [s[i + 1]], by go_num, by omega, by omega, by simp; omega, HP, hI2, hb2, hres2, hw2⟩
          case measure => simp [intOf]; omega
        · have HST := stands_any s (i + 1) 39
          have hst : stB s (i + 1) 39 = false := decide_eq_false hn
          rw [hst] at HST
          have HS := Lib.hid (show sglT s p = gotT o p ((i + 1 : Nat) : Int) by
            unfold sglT; rw [← hpp.out, rdS_stop hlt h39 hn]; simp [pre])
          clear hst hpp h39 hn
          go_wp2_with fail
          refine (HST _).mono ?_
          rintro e w1 ⟨rfl, rfl⟩
          clear HST
          have hsz0 : w.heap.size + 1 ≤ wr.heap.size := by omega
          go_wp2_with (go_at_call 49; refine (Tryz.Builder_String_any_k (w.heap.size + 1) (w.heap.size + 1) o _ hI hsz0).mono ?_)
          rintro e w2 ⟨rfl, _, b2, _⟩
          have hb2 := hb.trans (b2.mono (Nat.le_succ _))
          have hr2 := (b2.block w.heap.size (Nat.lt_succ_self _)).trans hres.out
          have hw2 : w.heap.size < w2.heap.size := (Array.getElem?_eq_some_iff.1 hr2).1
          have HR2 := Lib.hid hr2
          clear b2 hr2
          by_cases h1024 : 1024 < o.length
          · have HG := Lib.hid (show gotT o p ((i + 1 : Nat) : Int) = .tuple #[.string ⟨#[]⟩, .int .i64 0, .agg #[.int .i64 5, .int .i64 p]] by unfold gotT; rw [if_pos h1024])
            go_wp2_with fail
            refine (read_any o p ((i + 1 : Nat) : Int) w2 (by omega)).mono ?_
            rintro x w3 ⟨rfl, hb3⟩
            rw [HG.out]
            have hr3 := (hb3.block w.heap.size hw2).trans HR2.out
            have rc0 := cell_heap4 hr3 0 _ rfl
            have rc1 := cell_heap4 hr3 1 _ rfl
            have rf0 := free_heap4 hr3 0
            have rf1 := free_heap4 hr3 1
            have hB := hb2.trans (hb3.mono hb2.size)
            clear hr3 hb3
            go_wp2
            refine bodyPost_ret (v := .tuple #[.string ⟨#[]⟩, .int .i64 0, .agg #[.int .i64 5, .int .i64 p]]) (by simp [results, Tryz.results19, go_sem, rc0, rc1]) rfl ⟨by rw [HS.out, HG.out], ?_⟩
            exact (hB.setCell (p := ⟨w.heap.size, 0, none⟩) (Nat.le_refl _) _).setCell (p := ⟨w.heap.size, 1, none⟩) (Nat.le_refl _) _
          · have HG := Lib.hid (show gotT o p ((i + 1 : Nat) : Int) = .tuple #[.string ⟨o.toArray⟩, .int .i64 ((i + 1 : Nat) : Int), .agg #[.int .i64 0, .int .i64 0]] by unfold gotT; rw [if_neg h1024])
            go_wp2_with fail
            refine (read_any o p ((i + 1 : Nat) : Int) w2 (by omega)).mono ?_
            rintro x w3 ⟨rfl, hb3⟩
            rw [HG.out]
            have hr3 := (hb3.block w.heap.size hw2).trans HR2.out
            have rc0 := cell_heap4 hr3 0 _ rfl
            have rc1 := cell_heap4 hr3 1 _ rfl
            have rf0 := free_heap4 hr3 0
            have rf1 := free_heap4 hr3 1
            have hB := hb2.trans (hb3.mono hb2.size)
            clear hr3 hb3
            go_wp2
            refine bodyPost_ret (v := .tuple #[.string ⟨o.toArray⟩, .int .i64 ((i + 1 : Nat) : Int), .agg #[.int .i64 0, .int .i64 0]]) (by simp [results, Tryz.results19, go_sem, rc0, rc1]) rfl ⟨by rw [HS.out, HG.out], ?_⟩
            exact (hB.setCell (p := ⟨w.heap.size, 0, none⟩) (Nat.le_refl _) _).setCell (p := ⟨w.heap.size, 1, none⟩) (Nat.le_refl _) _
      · have q1 : ((s[i].toNat : Int) == 39) = false := by
          have e := bt_get s i hlt
          simp only [beq_eq_false_iff_ne, ne_eq]; omega
        have HP := Lib.hid (show pre (o ++ [s[i]]) (rdS s f (i + 1)) = rdS s s.size (p + 1) by
          rw [← hpp.out, rdS_one hlt h39, pre_pre])
        clear hpp h39
        go_wp2_with (go_at_call 50; refine (Tryz.Builder_WriteByte_k (w.heap.size + 1) (w.heap.size + 1) _ _ _ hI (by rw [Lib.byteCells_length]; omega) hsz0).mono ?_)
        rintro e w2 ⟨rfl, h2, b2, _⟩
        have hI2 : Lib.IsBuilderF 80 5 (w.heap.size + 1) (w.heap.size + 1) (Lib.byteCells (o ++ [s[i]])) w2 := by rw [Lib.byteCells_append]; exact .inr h2
        have hb2 := hb.trans (b2.mono (Nat.le_succ _))
        have hres2 := Lib.hid ((b2.block w.heap.size (Nat.lt_succ_self _)).trans hres.out)
        have hw2 : w.heap.size + 1 < w2.heap.size := isB_lt hI2
        clear b2 h2 hres hI hb
        go_wp2
        go_roundw
        case rel => exact ⟨i + 1, f, o ++ [s[i]], by go_num, by omega, by omega, by simp; omega, HP, hI2, hb2, hres2, hw2⟩
        case measure => simp [intOf]; omega
    · have HS := Lib.hid (show sglT s p = .tuple #[.string ⟨#[]⟩, .int .i64 0, .agg #[.int .i64 3, .int .i64 s.size]] by
        unfold sglT; rw [← hpp.out, rdS_end s f i (by omega)]; simp [pre])
      clear hpp
      go_wp2_with fail
      refine (wrong_any _ _ _).mono ?_
      rintro x w3 ⟨rfl, hb3⟩
      have hr3 := (hb3.block w.heap.size hwl).trans hres.out
      have rc0 := cell_heap4 hr3 0 _ rfl
      have rc1 := cell_heap4 hr3 1 _ rfl
      have rf0 := free_heap4 hr3 0
      have rf1 := free_heap4 hr3 1
      have hB := hb.trans (hb3.mono hb.size)
      clear hr3 hb3
      go_wp2
      refine bodyPost_ret (v := .tuple #[.string ⟨#[]⟩, .int .i64 0, .agg #[.int .i64 3, .int .i64 s.size]]) (by simp [results, Tryz.results19, go_sem, rc0, rc1]) rfl ⟨by rw [HS.out], ?_⟩
      exact (hB.setCell (p := ⟨w.heap.size, 0, none⟩) (Nat.le_refl _) _).setCell (p := ⟨w.heap.size, 1, none⟩) (Nat.le_refl _) _
end Go.Proofs.YtnnnanemefcmdaaGreatDoor
namespace Go.Proofs.YtnnnanemefcmdaaGreatDoor
open Go.RowKit

set_option maxRecDepth 100000 in
set_option maxHeartbeats 1000000 in
theorem hex_any (c : Nat) (w : World) (hc : c < 256) :
    Calls Tryz.prog 125 #[.int .u8 c] w fun e w' => e = .returned (.int .i64 (hexN c)) ∧ w = w' := by
  go_enter Tryz.func125, Tryz.ntmps125
  go_wp2
  all_goals
    go_ret
    exact ⟨ret_i (by unfold hexN; split <;> (try split) <;> (try split) <;> omega), rfl⟩

set_option maxRecDepth 100000 in
set_option maxHeartbeats 2000000 in
theorem number_any (s : ByteArray) (i n : Nat) (w : World) (hi : i ≤ s.size) (hs : s.size ≤ 10000) (hn : n ≤ 4) :
    Calls Tryz.prog 104 #[.string s, .int .i64 i, .int .i64 n] w fun e w' => e = .returned (.int .i64 (numR s i n)) ∧ w = w' := by
  by_cases hz : s.size < i + n
  · have HR := Lib.hid (show numR s i n = -1 by unfold numR; rw [if_pos hz])
    go_enter Tryz.func104, Tryz.ntmps104
    go_wp2
    go_ret
    exact ⟨ret_i HR.out.symm, rfl⟩
  · have z1 : decide ((s.size : Int) - (i : Int) < (n : Int)) = false := decide_eq_false (by omega)
    go_enter Tryz.func104, Tryz.ntmps104
    have HR := Lib.hid (show numR s i n = match numO s i n with | none => -1 | some v => (v : Int) by unfold numR; rw [if_neg hz]; cases numO s i n <;> rfl)
    go_wp2
    go_loop [7, 8] (fun v j => ∃ k x : Nat, j = .int .i64 k ∧ v = .int .i64 x ∧ k ≤ n ∧ x < 65536 ∧ Hid (numO s i k = some x)) (fun _ j => n - (intOf j).toNat)
    case atStart => exact ⟨0, 0, rfl, rfl, by omega, by omega, Lib.hid rfl⟩
    case round =>
      obtain ⟨k, x, rfl, rfl, hk, hx, hnum⟩ := hrel
      by_cases hlt : k < n
      · have hik : i + k < s.size := by omega
        have hr := hexN_range (s[i + k].toNat)
        obtain ⟨d, hd⟩ : ∃ d, hexN (s[i + k].toNat) = d := ⟨_, rfl⟩
        have HD := Lib.hid hd
        rw [hd] at hr
        have HD2 := Lib.hid (show hexN (bt s (i + k)) = d by rw [← bt_get s (i + k) hik]; exact hd)
        clear hd
        by_cases h0 : d < 0
        · have HS := Lib.hid (show numO s i (k + 1) = none by simp only [numO, hnum.out, HD2.out, if_pos h0])
          go_wp2_with fail
          refine (hex_any _ _ (UInt8.toNat_lt _)).mono ?_
          rintro e w' ⟨rfl, rfl⟩
          rw [HD.out]
          go_wp2
          go_ret
          exact ⟨ret_i (by rw [HR.out, numO_none HS.out (by omega)]), rfl⟩
        · obtain ⟨dn, rfl⟩ : ∃ dn : Nat, d = dn := ⟨d.toNat, by omega⟩
          have HS := Lib.hid (show numO s i (k + 1) = some (x * 16 + dn) by simp only [numO, hnum.out, HD2.out, if_neg h0]; simp)
          have hb := numO_le HS.out
          have hp : 16 ^ (k + 1) ≤ 16 ^ 4 := Nat.pow_le_pow_right (by decide) (by omega)
          have hx2 : x * 16 + dn < 65536 := by have : (16 : Nat) ^ 4 = 65536 := by decide
                                               omega
          clear hb hp
          go_wp2_with fail
          refine (hex_any _ _ (UInt8.toNat_lt _)).mono ?_
          rintro e w' ⟨rfl, rfl⟩
          rw [HD.out]
          go_wp2_with fail
          refine (hex_any _ _ (UInt8.toNat_lt _)).mono ?_
          rintro e w' ⟨rfl, rfl⟩
          rw [HD.out]
          go_wp2
          go_round
          case rel => exact ⟨k + 1, x * 16 + dn, by go_num, by go_num, by omega, hx2, HS⟩
          case measure => simp [intOf]; omega
      · have hkn : k = n := by omega
        subst hkn
        go_wp2
        go_ret
        exact ⟨ret_i (by rw [HR.out, hnum.out]), rfl⟩

end Go.Proofs.YtnnnanemefcmdaaGreatDoor
