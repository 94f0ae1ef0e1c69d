/- Plain: blanks ahead are of no account for what is shown (layer 6). -/
import Derived.Test.YtcmdpablbadloaaDoorShw
import Derived.Test.YtcmdpablbadloaaDoorLns
import Derived.Lib.TrimAscii
import Derived.Lib.TrimU
namespace Go.Proofs.YtcmdpablbadloaaDoor

/-- May what decodes to a pair be shown? -/
def shP (d : Nat × Nat) : Bool := (decide ((if d = (65533, 1) then (0, 0) else d : Nat × Nat).2 ≠ 0) && signB (if d = (65533, 1) then (0, 0) else d : Nat × Nat).1) && !decide ((if d = (65533, 1) then (0, 0) else d : Nat × Nat).1 = 10)
theorem shAt_P (s : ByteArray) (i : Nat) : shAt s i = shP (Utf8.decode s i) := rfl
def shL : Nat → List UInt8 → Bool
  | 0, _ => true
  | f + 1, l => if l.isEmpty then true else if shP (Lib.decodeL l) then shL f (l.drop (Lib.decodeL l).2) else false
theorem shf_shL (s : ByteArray) : ∀ (f i : Nat), shf s f i = shL f (s.data.toList.drop i)
  | 0, _ => rfl
  | f + 1, i => by
    rw [shf, shL]
    by_cases hlt : i < s.size
    · have hne : ¬ (s.data.toList.drop i).isEmpty = true := by
        intro e
        have := congrArg List.length (List.isEmpty_iff.1 e)
        simp at this; omega
      rw [if_pos hlt, if_neg hne, shAt_P, Lib.decodeL_drop s i, shf_shL s f, List.drop_drop]; rfl
    · have he : (s.data.toList.drop i).isEmpty = true := by
        rw [List.drop_eq_nil_of_le (by simp; omega)]; rfl
      rw [if_neg hlt, if_pos he]
theorem shL_fuel : ∀ (f g : Nat) (l : List UInt8), l.length ≤ f → l.length ≤ g → shL f l = shL g l
  | 0, g, l, hf, _ => by
    have : l = [] := List.eq_nil_of_length_eq_zero (by omega)
    subst this
    cases g <;> simp [shL]
  | f + 1, 0, l, _, hg => by
    have : l = [] := List.eq_nil_of_length_eq_zero (by omega)
    subst this
    simp [shL]
  | f + 1, g + 1, l, hf, hg => by
    have hw := Lib.decodeL_width l
    rw [shL, shL, shL_fuel f g _ (by simp; omega) (by simp; omega)]
theorem shL_blank (f : Nat) (l : List UInt8) : shL (f + 1) (32 :: l) = shL f l := by
  rw [shL, Lib.decodeL_ascii 32 l (by decide), if_neg (by simp), if_pos (by decide)]; rfl
theorem shownB_L (l : List UInt8) : shownB ⟨l.toArray⟩ = shL l.length l := by
  unfold shownB
  rw [shf_shL]; rfl
theorem shown_beh (l : List UInt8) : shownB ⟨(beh l).toArray⟩ = shownB ⟨l.toArray⟩ := by
  induction l with
  | nil => rfl
  | cons b l ih =>
    by_cases h : b = 32
    · subst h
      have e : beh (32 :: l) = beh l := by simp [beh]
      rw [e, ih, shownB_L, shownB_L]
      exact (shL_blank l.length l).symm
    · have e : beh (b :: l) = b :: l := by simp [beh, h]
      rw [e]
end Go.Proofs.YtcmdpablbadloaaDoor
