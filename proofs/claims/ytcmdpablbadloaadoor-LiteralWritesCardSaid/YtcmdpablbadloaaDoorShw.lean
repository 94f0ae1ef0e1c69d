/- Plain: is a text shown? (no program) -/
import Derived.Test.YtcmdpablbadloaaDoorCk
import Derived.Lib.ValidU
import Derived.Lib.TrimUEq
import Derived.Shelf.GgClosure.StringsIndexFunc
namespace Go.Proofs.YtcmdpablbadloaaDoor

/-- No sign, or a line feed, of what UTF-8 can have. -/
def hidP (c : Nat) : Bool := decide (c < 32 ∨ 127 ≤ c ∧ c ≤ 159 ∨ c = 65279 ∨ c = 65534 ∨ c = 65535)
/-- May the character at i be shown? -/
def shAt (s : ByteArray) (i : Nat) : Bool := goodAt s i && !decide ((chr s i).1 = 10)
def shf (s : ByteArray) : Nat → Nat → Bool
  | 0, _ => true
  | f + 1, i => if i < s.size then (if shAt s i then shf s f (i + wd s i) else false) else true
def shownB (s : ByteArray) : Bool := shf s s.size 0

theorem chr_sur (s : ByteArray) (i : Nat) : (chr s i).1 < 55296 ∨ 57343 < (chr s i).1 ∧ (chr s i).1 ≤ 1114111 := by
  have g0 := bt_lt s i; have g1 := bt_lt s (i + 1); have g2 := bt_lt s (i + 2); have g3 := bt_lt s (i + 3)
  by_cases a1 : bt s i < 128
  · rw [chr_a a1]; simp; omega
  by_cases a2 : bt s i < 194
  · rw [chr_b (by omega) a2]; simp
  by_cases a3 : 245 ≤ bt s i
  · rw [chr_f a3]; simp
  by_cases a4 : bt s i < 224
  · by_cases b : s.size ≤ i + 1 ∨ bt s (i + 1) < 128 ∨ 192 ≤ bt s (i + 1)
    · rw [chr_c_no (by omega) a4 b]; simp
    · rw [chr_c (by omega) a4 (by omega) (by omega) (by omega)]; simp; omega
  by_cases a5 : bt s i < 240
  · by_cases b : s.size ≤ i + 2 ∨ bt s (i + 1) < 128 ∨ 192 ≤ bt s (i + 1) ∨ bt s (i + 2) < 128 ∨ 192 ≤ bt s (i + 2)
    · rw [chr_d_no (by omega) a5 b]; simp
    · obtain ⟨c, hcc⟩ : ∃ c, c + 224 * 4096 + 128 * 64 + 128 = bt s i * 4096 + bt s (i + 1) * 64 + bt s (i + 2) := ⟨bt s i * 4096 + bt s (i + 1) * 64 + bt s (i + 2) - (224 * 4096 + 128 * 64 + 128), by omega⟩
      rw [chr_d (by omega) a5 (by omega) (by omega) (by omega) (by omega) (by omega) c hcc]
      split
      · simp; omega
      · simp
  by_cases b : s.size ≤ i + 3 ∨ bt s (i + 1) < 128 ∨ 192 ≤ bt s (i + 1) ∨ bt s (i + 2) < 128 ∨ 192 ≤ bt s (i + 2) ∨ bt s (i + 3) < 128 ∨ 192 ≤ bt s (i + 3)
  · rw [chr_e_no (by omega) (by omega) b]; simp
  · obtain ⟨c, hcc⟩ : ∃ c, c + 240 * 262144 + 128 * 4096 + 128 * 64 + 128 = bt s i * 262144 + bt s (i + 1) * 4096 + bt s (i + 2) * 64 + bt s (i + 3) := ⟨bt s i * 262144 + bt s (i + 1) * 4096 + bt s (i + 2) * 64 + bt s (i + 3) - (240 * 262144 + 128 * 4096 + 128 * 64 + 128), by omega⟩
    rw [chr_e (by omega) (by omega) (by omega) (by omega) (by omega) (by omega) (by omega) (by omega) (by omega) c hcc]
    split
    · simp; omega
    · simp
theorem hid_sign (c : Nat) (h : c < 55296 ∨ 57343 < c ∧ c ≤ 1114111) : (signB c && !decide (c = 10)) = !hidP c := by
  rw [Bool.eq_iff_iff]; simp [signB, hidP]; omega
/-- What the program's two calls find is what the document's loop finds. -/
theorem shf_eq (s : ByteArray) : ∀ (f i : Nat), s.size ≤ i + f → shf s f i = (Lib.validGoD f (s.data.toList.drop i) && !decide (0 ≤ Lib.idxFuncFrom hidP true s f i))
  | 0, i, _ => by simp [shf, Lib.validGoD, Lib.idxFuncFrom]
  | f + 1, i, hf => by
    by_cases hlt : i < s.size
    · have hne : s.data.toList.drop i ≠ [] := by
        intro e
        have := congrArg List.length e
        simp at this; omega
      have hd := Lib.decodeL_drop s i
      have hw := wd_pos s i
      unfold wd at hw
      rw [shf, if_pos hlt, Lib.validGoD, if_neg hne, hd, Lib.idxFuncFrom, if_pos hlt]
      by_cases e : Utf8.decode s i = (65533, 1)
      · have hg : shAt s i = false := by simp [shAt, goodAt, chr, e]
        rw [if_neg (by simp [hg]), if_pos (by rw [e]; exact ⟨rfl, rfl⟩)]; simp
      · have hc : chr s i = Utf8.decode s i := by unfold chr; rw [if_neg e]
        have hs : shAt s i = !hidP (Utf8.decode s i).1 := by
          have := chr_sur s i
          rw [hc] at this
          rw [← hid_sign _ this]
          unfold shAt goodAt
          rw [hc, decide_eq_true (show (Utf8.decode s i).2 ≠ 0 by omega)]; simp
        rw [if_neg (show ¬ ((Utf8.decode s i).1 = 65533 ∧ (Utf8.decode s i).2 = 1) from fun h => e (Prod.ext h.1 h.2)), hs]
        cases hh : hidP (Utf8.decode s i).1 with
        | true => simp
        | false =>
          have ih := shf_eq s f (i + wd s i) (by unfold wd; omega)
          unfold wd at ih ⊢
          rw [List.drop_drop]
          simp [ih]
    · have he : s.data.toList.drop i = [] := List.drop_eq_nil_of_le (by simp; omega)
      rw [shf, if_neg hlt, he, Lib.validGoD, if_pos rfl, Lib.idxFuncFrom, if_neg hlt]; simp
theorem shown_eq (s : ByteArray) : shownB s = (Lib.validD s.data.toList && !decide (0 ≤ Lib.idxFunc hidP true s)) := by
  have := shf_eq s s.size 0 (by omega)
  exact this
theorem shf_end (s : ByteArray) (f i : Nat) (h : s.size ≤ i) : shf s f i = true := by
  cases f with
  | zero => rfl
  | succ f => rw [shf, if_neg (by omega)]
theorem shf_good (s : ByteArray) (f i : Nat) (h : i < s.size) (hg : shAt s i = true) : shf s (f + 1) i = shf s f (i + wd s i) := by rw [shf, if_pos h, if_pos hg]
theorem shf_bad (s : ByteArray) (f i : Nat) (h : i < s.size) (hg : shAt s i = false) : shf s (f + 1) i = false := by rw [shf, if_pos h, if_neg (by simp [hg])]
end Go.Proofs.YtcmdpablbadloaaDoor
