/- Reading what was written between single marks; plain: no walk. -/
import Derived.Test.YtoobbmehjpninaaGreatDoorRSingleP
import Derived.Test.YtoobbmehjpninaaGreatDoorWSingleP
namespace Go.Proofs.YtoobbmehjpninaaGreatDoor
open Go.RowKit

/-- The bytes from a place on. -/
def rest8 (t : ByteArray) (i : Nat) : List UInt8 := t.data.toList.drop i
theorem rest8_cons {t : ByteArray} {i : Nat} {b : UInt8} {r : List UInt8} (h : rest8 t i = b :: r) :
    ∃ hi : i < t.size, t[i] = b ∧ bt t i = b.toNat ∧ rest8 t (i + 1) = r := by
  unfold rest8 at h
  have hi : i < t.size := by
    have := congrArg List.length h
    simp at this
    have h2 : t.data.size = t.size := rfl
    omega
  have hd := List.drop_eq_getElem_cons (l := t.data.toList) (i := i) (by simpa using hi)
  rw [hd] at h
  injection h with h1 h2
  have h3 : t[i] = b := h1
  refine ⟨hi, h3, ?_, h2⟩
  rw [← bt_get t i hi, h3]
theorem rest8_nil {t : ByteArray} {i : Nat} (h : rest8 t i = []) : t.size ≤ i := by
  unfold rest8 at h
  have := congrArg List.length h
  simp at this
  have h2 : t.data.size = t.size := rfl
  omega
theorem rest8_len {t : ByteArray} {i : Nat} (h : i ≤ t.size) : i + (rest8 t i).length = t.size := by
  unfold rest8
  have h2 : t.data.size = t.size := rfl
  simp; omega
theorem dbl_cons (b : UInt8) (l : List UInt8) : dbl (b :: l) = (if b.toNat = 39 then [39, 39] else [b]) ++ dbl l := by simp [dbl]
theorem u39 {b : UInt8} (h : b.toNat = 39) : b = 39 := by
  apply UInt8.toNat_inj.mp; rw [h]; decide

/-- What is written between single marks is read as it was. -/
theorem rdS_back (l : List UInt8) : ∀ (t : ByteArray) (i f : Nat) (r : List UInt8), rest8 t i = dbl l ++ 39 :: r → r.head? ≠ some 39 → l.length < f →
    rdS t f i = some (l, i + (dbl l).length + 1) := by
  induction l with
  | nil =>
    intro t i f r h hr hf
    obtain ⟨f, rfl⟩ : ∃ g, f = g + 1 := ⟨f - 1, by omega⟩
    simp only [dbl, List.flatMap_nil, List.nil_append] at h
    obtain ⟨hi, _, hb, h2⟩ := rest8_cons h
    have hb : bt t i = 39 := hb
    rw [rdS_stop hi hb ?_]
    · simp [dbl]
    · rintro ⟨h3, h4⟩
      cases r with
      | nil => have := rest8_nil h2; omega
      | cons c r =>
        obtain ⟨_, _, hc, _⟩ := rest8_cons h2
        exact hr (by rw [u39 (hc.symm.trans h4)]; rfl)
  | cons b l ih =>
    intro t i f r h hr hf
    obtain ⟨f, rfl⟩ : ∃ g, f = g + 1 := ⟨f - 1, by omega⟩
    simp only [List.length_cons] at hf
    rw [dbl_cons] at h
    by_cases hb39 : b.toNat = 39
    · rw [if_pos hb39] at h
      simp only [List.cons_append, List.nil_append] at h
      obtain ⟨hi, _, hb, h2⟩ := rest8_cons h
      obtain ⟨hi2, _, hb2, h3⟩ := rest8_cons h2
      rw [rdS_two hi hb hi2 hb2, ih t (i + 2) f r h3 hr (by omega), dbl_cons, if_pos hb39, u39 hb39]
      simp [pre]; omega
    · rw [if_neg hb39] at h
      simp only [List.cons_append, List.nil_append] at h
      obtain ⟨hi, he, hb, h2⟩ := rest8_cons h
      rw [rdS_one hi (by rw [hb]; exact hb39), ih t (i + 1) f r h2 hr (by omega), dbl_cons, if_neg hb39, he]
      simp [pre]; omega

/-- What is cut off is not ended, or ends where it is cut off. -/
theorem rdS_cut (l : List UInt8) : ∀ (t : ByteArray) (i f : Nat) (q : List UInt8), rest8 t i ++ q = dbl l → (rest8 t i).length < f → i ≤ t.size →
    rdS t f i = none ∨ ∃ l', rdS t f i = some (l', t.size) := by
  induction l with
  | nil =>
    intro t i f q h hf hi
    have h0 : rest8 t i = [] := by
      have := congrArg List.length h
      simp [dbl] at this
      exact List.eq_nil_of_length_eq_zero (by simp [this])
    exact .inl (rdS_end t f i (rest8_nil h0))
  | cons b l ih =>
    intro t i f q h hf hi
    obtain ⟨f, rfl⟩ : ∃ g, f = g + 1 := ⟨f - 1, by omega⟩
    cases hr : rest8 t i with
    | nil => exact .inl (rdS_end t _ i (rest8_nil hr))
    | cons c r =>
      obtain ⟨hi1, he, hb, h2⟩ := rest8_cons hr
      rw [hr, List.length_cons] at hf
      rw [hr, dbl_cons] at h
      by_cases hb39 : b.toNat = 39
      · rw [if_pos hb39] at h
        simp only [List.cons_append, List.nil_append, List.cons.injEq] at h
        obtain ⟨rfl, h⟩ := h
        cases r with
        | nil =>
          have := rest8_nil h2
          refine .inr ⟨[], ?_⟩
          rw [rdS_stop hi1 hb (by omega)]
          have : i + 1 = t.size := by omega
          rw [this]
        | cons d r =>
          obtain ⟨hi2, _, hb2, h3⟩ := rest8_cons h2
          simp only [List.cons_append, List.cons.injEq] at h
          obtain ⟨rfl, h⟩ := h
          rw [rdS_two hi1 hb hi2 hb2]
          rcases ih t (i + 2) f q (by rw [h3]; exact h) (by rw [h3]; simp only [List.length_cons] at hf; omega) (by omega) with h5 | ⟨l', h5⟩
          · left; rw [h5]; rfl
          · right; rw [h5]; exact ⟨_, rfl⟩
      · rw [if_neg hb39] at h
        simp only [List.cons_append, List.nil_append, List.cons.injEq] at h
        obtain ⟨rfl, h⟩ := h
        rw [rdS_one hi1 (by rw [hb]; exact hb39)]
        rcases ih t (i + 1) f q (by rw [h2]; exact h) (by rw [h2]; omega) (by omega) with h5 | ⟨l', h5⟩
        · left; rw [h5]; rfl
        · right; rw [h5]; exact ⟨_, rfl⟩
end Go.Proofs.YtoobbmehjpninaaGreatDoor
