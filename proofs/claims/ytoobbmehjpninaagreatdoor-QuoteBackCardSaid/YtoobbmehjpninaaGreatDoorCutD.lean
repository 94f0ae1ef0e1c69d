/- What is written between double marks, cut off anywhere, is not a text; plain: no walk. -/
import Derived.Test.YtoobbmehjpninaaGreatDoorRDoubleP
import Derived.Test.YtoobbmehjpninaaGreatDoorWDoubleP
import Derived.Test.YtoobbmehjpninaaGreatDoorBackS
namespace Go.Proofs.YtoobbmehjpninaaGreatDoor
open Go.RowKit

/-- What reading never splits: a plain byte or an escape. -/
def isTok (p : List UInt8) : Prop :=
  (∃ b : UInt8, p = [b] ∧ b.toNat ≠ 34 ∧ b.toNat ≠ 92) ∨ (∃ b : UInt8, p = [92, b] ∧ (b.toNat = 92 ∨ b.toNat = 34 ∨ b.toNat = 110 ∨ b.toNat = 116))
  ∨ (∃ h, p = 92 :: 120 :: h ∧ h.length = 2) ∨ (∃ h, p = 92 :: 117 :: h ∧ h.length = 4)
def DOut.Not (r : DOut) : Prop := r = .cut ∨ ∃ j, r = .bad j
theorem DOut.Not.pre {r : DOut} (h : r.Not) (o : List UInt8) : (r.pre o).Not := by
  rcases h with rfl | ⟨j, rfl⟩
  · exact .inl rfl
  · exact .inr ⟨j, rfl⟩
theorem rest8_add {t : ByteArray} {i : Nat} (k : Nat) : rest8 t (i + k) = (rest8 t i).drop k := by simp [rest8]
theorem esc_two {t : ByteArray} {i : Nat} (h : i + 1 < t.size) (hb : bt t (i + 1) = 92 ∨ bt t (i + 1) = 34 ∨ bt t (i + 1) = 110 ∨ bt t (i + 1) = 116) : (escN t i).2 = 2 := by
  unfold escN
  rw [if_neg (by omega)]
  by_cases h1 : bt t (i + 1) = 92 ∨ bt t (i + 1) = 34
  · rw [if_pos h1]
  · rw [if_neg h1]
    by_cases h2 : bt t (i + 1) = 110
    · rw [if_pos h2]
    · rw [if_neg h2, if_pos (by omega)]
theorem esc_x {t : ByteArray} {i : Nat} (hb : bt t (i + 1) = 120) : (escN t i).2 = 0 ∨ (escN t i).2 = 4 := by
  unfold escN
  rw [hb]
  split
  · left; rfl
  · rw [if_neg (by omega), if_neg (by omega), if_neg (by omega), if_pos rfl]
    split
    · left; rfl
    · right; rfl
theorem esc_u {t : ByteArray} {i : Nat} (hb : bt t (i + 1) = 117) : (escN t i).2 = 0 ∨ (escN t i).2 = 6 := by
  unfold escN
  rw [hb]
  split
  · left; rfl
  · rw [if_neg (by omega), if_neg (by omega), if_neg (by omega), if_neg (by omega), if_pos rfl]
    split
    · left; rfl
    · right; rfl
theorem esc_last {t : ByteArray} {i : Nat} (h : i + 1 = t.size) : (escN t i).2 = 0 := by unfold escN; rw [if_pos h]

/-- One escape that is cut off, or what stands behind it. -/
theorem drop_over {x q y z : List UInt8} {k : Nat} (h : x ++ q = y ++ z) (hk : y.length = k) (hx : k ≤ x.length) : x.drop k ++ q = z := by
  have := congrArg (List.drop k) h
  rw [List.drop_append_of_le_length hx] at this
  rw [this, ← hk]; simp

theorem rdD_cut (ts : List (List UInt8)) : (∀ p ∈ ts, isTok p) → ∀ (t : ByteArray) (i f : Nat) (q : List UInt8), rest8 t i ++ q = ts.flatten → (rest8 t i).length < f → i ≤ t.size →
    (rdD t f i).Not := by
  induction ts with
  | nil =>
    intro _ t i f q h hf hi
    have h0 : rest8 t i = [] := by
      have := congrArg List.length h
      simp at this
      exact List.eq_nil_of_length_eq_zero (by simp [this])
    exact .inl (rdD_end t f i (rest8_nil h0))
  | cons p ts ih =>
    intro hts t i f q h hf hi
    have ih := ih (fun p hp => hts p (List.mem_cons_of_mem _ hp))
    obtain ⟨f, rfl⟩ : ∃ g, f = g + 1 := ⟨f - 1, by omega⟩
    have hl := rest8_len hi
    simp only [List.flatten_cons] at h
    by_cases h0 : rest8 t i = []
    · exact .inl (rdD_end t _ i (rest8_nil h0))
    obtain ⟨c, r, hr⟩ := List.exists_cons_of_ne_nil h0
    obtain ⟨hi1, he, hb, h2⟩ := rest8_cons hr
    have over : ∀ k, p.length = k → 1 ≤ k → i + k ≤ t.size → (rdD t f (i + k)).Not := fun k hk h1 h3 => by
      have hl3 := rest8_len h3
      exact ih t (i + k) f q (by rw [rest8_add]; exact drop_over h hk (by omega)) (by omega) h3
    have esc : c.toNat = 92 → ∀ k : Nat, p.length = k → ((escN t i).2 = 0 ∨ (escN t i).2 = k) → (rdD t (f + 1) i).Not := fun hc k hk hor => by
      by_cases hz : (escN t i).2 = 0
      · rw [rdD_bad hi1 (hb.trans hc) hz]; exact .inr ⟨i, rfl⟩
      · rw [rdD_esc hi1 (hb.trans hc) hz]
        have hn := esc_range hi1
        rcases hor with h4 | h4
        · exact absurd h4 hz
        · have h5 : (escN t i).2.toNat = k := by omega
          rw [h5] at hn ⊢
          exact (over k hk (by omega) (by omega)).pre _
    rcases hts p (List.mem_cons_self ..) with ⟨b, rfl, hb1, hb2⟩ | ⟨b, rfl, hbs⟩ | ⟨u, rfl, hu⟩ | ⟨u, rfl, hu⟩
    · rw [hr] at h
      simp only [List.cons_append, List.nil_append, List.cons.injEq] at h
      obtain ⟨rfl, h⟩ := h
      rw [rdD_one hi1 (by omega) (by omega)]
      exact (over 1 rfl (by omega) (by omega)).pre _
    · have h' := h
      rw [hr] at h'
      simp only [List.cons_append, List.cons.injEq] at h'
      obtain ⟨rfl, h'⟩ := h'
      refine esc (by decide) 2 rfl ?_
      cases r with
      | nil => exact .inl (esc_last (by have := rest8_nil h2; omega))
      | cons d r =>
        obtain ⟨hi2, _, hb2, _⟩ := rest8_cons h2
        simp only [List.cons_append, List.cons.injEq] at h'
        obtain ⟨rfl, _⟩ := h'
        exact .inr (esc_two hi2 (by omega))
    · have h' := h
      rw [hr] at h'
      simp only [List.cons_append, List.cons.injEq] at h'
      obtain ⟨rfl, h'⟩ := h'
      refine esc (by decide) 4 (by simp [hu]) ?_
      cases r with
      | nil => exact .inl (esc_last (by have := rest8_nil h2; omega))
      | cons d r =>
        obtain ⟨hi2, _, hb2, _⟩ := rest8_cons h2
        simp only [List.cons_append, List.cons.injEq] at h'
        obtain ⟨rfl, _⟩ := h'
        exact esc_x hb2
    · have h' := h
      rw [hr] at h'
      simp only [List.cons_append, List.cons.injEq] at h'
      obtain ⟨rfl, h'⟩ := h'
      refine esc (by decide) 6 (by simp [hu]) ?_
      cases r with
      | nil => exact .inl (esc_last (by have := rest8_nil h2; omega))
      | cons d r =>
        obtain ⟨hi2, _, hb2, _⟩ := rest8_cons h2
        simp only [List.cons_append, List.cons.injEq] at h'
        obtain ⟨rfl, _⟩ := h'
        exact esc_u hb2

/-- A list of plain bytes, each by itself. -/
theorem toks_plain (l : List UInt8) (h : ∀ b ∈ l, b.toNat ≠ 34 ∧ b.toNat ≠ 92) : ∃ ts : List (List UInt8), l = ts.flatten ∧ ∀ p ∈ ts, isTok p := by
  refine ⟨l.map fun b => [b], ?_, ?_⟩
  · induction l with
    | nil => rfl
    | cons b l ih => simp [← ih (fun b hb => h b (List.mem_cons_of_mem _ hb))]
  · intro p hp
    obtain ⟨b, hb, rfl⟩ := List.mem_map.mp hp
    exact .inl ⟨b, rfl, h b hb⟩
theorem encB_plain (c : Nat) (h1 : c ≠ 34) (h2 : c ≠ 92) (h3 : c ≤ 1114111) : ∀ b ∈ encB c, b.toNat ≠ 34 ∧ b.toNat ≠ 92 := by
  intro b hb
  unfold encB at hb
  split at hb
  · simp only [List.mem_singleton] at hb; subst hb; simp; omega
  · split at hb
    · simp only [List.mem_cons, List.not_mem_nil, or_false] at hb
      rcases hb with rfl | rfl <;> simp <;> omega
    · split at hb
      · simp only [List.mem_cons, List.not_mem_nil, or_false] at hb
        rcases hb with rfl | rfl | rfl <;> simp <;> omega
      · simp only [List.mem_cons, List.not_mem_nil, or_false] at hb
        rcases hb with rfl | rfl | rfl | rfl <;> simp <;> omega
theorem toks_one {p : List UInt8} (h : isTok p) : ∃ ts : List (List UInt8), p = ts.flatten ∧ ∀ p ∈ ts, isTok p :=
  ⟨[p], by simp, fun q hq => by simp only [List.mem_singleton] at hq; subst hq; exact h⟩
theorem escW_toks (c : Nat) (h3 : c ≤ 1114111) : ∃ ts : List (List UInt8), escW c = ts.flatten ∧ ∀ p ∈ ts, isTok p := by
  unfold escW
  split
  · rename_i h
    refine toks_one (.inr (.inl ⟨UInt8.ofNat c, rfl, ?_⟩))
    rcases h with rfl | rfl <;> simp
  · rename_i h
    split
    · exact toks_one (.inr (.inl ⟨110, rfl, by simp⟩))
    · split
      · exact toks_one (.inr (.inl ⟨116, rfl, by simp⟩))
      · split
        · exact toks_plain _ (encB_plain c (by omega) (by omega) h3)
        · split
          · exact toks_one (.inr (.inr (.inl ⟨smallL c 2, rfl, smallL_len c 2⟩)))
          · exact toks_one (.inr (.inr (.inr ⟨smallL c 4, rfl, smallL_len c 4⟩)))
theorem dcN_le (s : ByteArray) (i : Nat) : (dcN s i).1 ≤ 1114111 := by
  unfold dcN
  split
  · simp
  · exact chr_le s i
theorem wdF_toks (s : ByteArray) (f : Nat) : ∀ i, ∃ ts : List (List UInt8), wdF s f i = ts.flatten ∧ ∀ p ∈ ts, isTok p := by
  induction f with
  | zero => exact fun i => ⟨[], rfl, by simp⟩
  | succ f ih =>
    intro i
    rw [wdF]
    split
    · obtain ⟨ts, h1, h2⟩ := escW_toks (dcN s i).1 (dcN_le s i)
      obtain ⟨us, h3, h4⟩ := ih (i + (dcN s i).2)
      refine ⟨ts ++ us, by rw [h1, h3]; simp, ?_⟩
      intro p hp
      rcases List.mem_append.mp hp with h | h
      · exact h2 p h
      · exact h4 p h
    · exact ⟨[], rfl, by simp⟩
end Go.Proofs.YtoobbmehjpninaaGreatDoor
