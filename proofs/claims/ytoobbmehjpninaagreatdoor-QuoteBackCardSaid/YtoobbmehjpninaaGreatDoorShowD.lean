/- What is written between double marks is shown whole; plain: no walk. -/
import Derived.Test.YtoobbmehjpninaaGreatDoorValidP
namespace Go.Proofs.YtoobbmehjpninaaGreatDoor
open Go.RowKit

theorem u8n {n : Nat} (h : n < 256) : (UInt8.ofNat n).toNat = n := by simp; omega
/-- A character's bytes, read, are the character. -/
theorem chr_dec {t : ByteArray} {i c : Nat} {r : List UInt8} (h : rest8 t i = encB c ++ r) (h1 : c ≤ 1114111) (h2 : ¬ (55296 ≤ c ∧ c ≤ 57343)) :
    chr t i = (c, (encB c).length) := by
  unfold encB at h ⊢
  by_cases k1 : c < 128
  · rw [if_pos k1] at h ⊢
    obtain ⟨_, _, b0, _⟩ := rest8_cons h
    rw [u8n (by omega)] at b0
    rw [chr_a (by omega), b0]; rfl
  rw [if_neg k1] at h ⊢
  by_cases k2 : c < 2048
  · rw [if_pos k2] at h ⊢
    obtain ⟨_, _, b0, h⟩ := rest8_cons h
    obtain ⟨_, _, b1, h⟩ := rest8_cons h
    rw [u8n (by omega)] at b0 b1
    rw [chr_c (by omega) (by omega) (by omega) (by omega) (by omega)]
    simp; omega
  rw [if_neg k2] at h ⊢
  by_cases k3 : c < 65536
  · rw [if_pos k3] at h ⊢
    obtain ⟨_, _, b0, h⟩ := rest8_cons h
    obtain ⟨_, _, b1, h⟩ := rest8_cons h
    obtain ⟨_, _, b2, h⟩ := rest8_cons h
    rw [u8n (by omega)] at b0 b1 b2
    replace b2 : bt t (i + 2) = 128 + c % 64 := b2
    rw [chr_d (c := c) (by omega) (by omega) (by omega) (by omega) (by omega) (by omega) (by omega) (by omega), if_pos (by omega)]; rfl
  rw [if_neg k3] at h ⊢
  obtain ⟨_, _, b0, h⟩ := rest8_cons h
  obtain ⟨_, _, b1, h⟩ := rest8_cons h
  obtain ⟨_, _, b2, h⟩ := rest8_cons h
  obtain ⟨_, _, b3, h⟩ := rest8_cons h
  rw [u8n (by omega)] at b0 b1 b2 b3
  replace b2 : bt t (i + 2) = 128 + c / 64 % 64 := b2
  replace b3 : bt t (i + 3) = 128 + c % 64 := b3
  rw [chr_e (c := c) (by omega) (by omega) (by omega) (by omega) (by omega) (by omega) (by omega) (by omega) (by omega) (by omega), if_pos (by omega)]; rfl

/-- A character that is shown. -/
def shC (c : Nat) : Prop := signB c = true ∧ c ≠ 10
theorem shC_range {c : Nat} (h : shC c) : c ≤ 1114111 ∧ ¬ (55296 ≤ c ∧ c ≤ 57343) := by
  have := h.1
  unfold signB at this
  simp at this; omega
theorem shC_asc {c : Nat} (h : 32 ≤ c) (h' : c ≤ 126) : shC c := ⟨signB_true (by omega), by omega⟩
theorem shqF_all (cs : List Nat) : (∀ c ∈ cs, shC c) → ∀ (t : ByteArray) (i f : Nat), rest8 t i = cs.flatMap encB → shqF t f i = true := by
  induction cs with
  | nil =>
    intro _ t i f h
    exact shqF_end t f i (rest8_nil h)
  | cons c cs ih =>
    intro hc t i f h
    have h0 := hc c (List.mem_cons_self ..)
    have h1 := shC_range h0
    rw [List.flatMap_cons] at h
    have hd := chr_dec h h1.1 h1.2
    have hl := encB_len c
    cases f with
    | zero => rfl
    | succ f =>
      by_cases hi : i < t.size
      · rw [shqF_good hi (by rw [hd]; simp only; omega) (by rw [hd]; exact h0.2) (by rw [hd]; exact h0.1), hd]
        exact ih (fun c h => hc c (List.mem_cons_of_mem _ h)) t _ f (by rw [rest8_add, h]; simp)
      · exact shqF_end t _ i (by omega)

theorem enc_asc {c : Nat} (h : c < 128) : encB c = [UInt8.ofNat c] := by unfold encB; rw [if_pos h]
theorem dig_enc {d : Nat} (h : d < 16) : ∃ c, [dig d] = encB c ∧ 32 ≤ c ∧ c ≤ 126 := by
  unfold dig
  by_cases h9 : 9 < d
  · rw [if_pos h9]; exact ⟨87 + d, (enc_asc (by omega)).symm, by omega, by omega⟩
  · rw [if_neg h9]; exact ⟨48 + d, (enc_asc (by omega)).symm, by omega, by omega⟩
/-- A text of characters that are shown. -/
def ofC (l : List UInt8) : Prop := ∃ cs : List Nat, l = cs.flatMap encB ∧ ∀ c ∈ cs, shC c
theorem ofC_nil : ofC [] := ⟨[], rfl, by simp⟩
theorem ofC_one {c : Nat} (h : shC c) : ofC (encB c) := ⟨[c], by simp, fun d hd => by simp only [List.mem_singleton] at hd; subst hd; exact h⟩
theorem ofC_app {l k : List UInt8} (h : ofC l) (h' : ofC k) : ofC (l ++ k) := by
  obtain ⟨cs, rfl, h1⟩ := h
  obtain ⟨ds, rfl, h2⟩ := h'
  refine ⟨cs ++ ds, by simp, ?_⟩
  intro c hc
  rcases List.mem_append.mp hc with h | h
  · exact h1 c h
  · exact h2 c h
theorem ofC_asc (c : Nat) {l : List UInt8} (h : 32 ≤ c) (h' : c ≤ 126) (hl : ofC l) : ofC (UInt8.ofNat c :: l) := by
  have := ofC_app (ofC_one (shC_asc h h')) hl
  rw [enc_asc (by omega)] at this
  exact this
theorem ofC_small (v n : Nat) : ofC (smallL v n) := by
  induction n with
  | zero => exact ofC_nil
  | succ n ih =>
    obtain ⟨c, h, h1, h2⟩ := dig_enc (d := v / 16 ^ n % 16) (Nat.mod_lt _ (by decide))
    have h3 := ofC_app (ofC_one (shC_asc h1 h2)) ih
    rw [← h] at h3
    exact h3
theorem ofC_esc (c : Nat) (h3 : c ≤ 1114111) : ofC (escW c) := by
  unfold escW
  split
  · exact ofC_asc 92 (by omega) (by omega) (ofC_asc c (by omega) (by omega) ofC_nil)
  · split
    · exact ofC_asc 92 (by omega) (by omega) (ofC_asc 110 (by omega) (by omega) ofC_nil)
    · rename_i h10
      split
      · exact ofC_asc 92 (by omega) (by omega) (ofC_asc 116 (by omega) (by omega) ofC_nil)
      · split
        · rename_i hs
          exact ofC_one ⟨hs, h10⟩
        · split
          · exact ofC_asc 92 (by omega) (by omega) (ofC_asc 120 (by omega) (by omega) (ofC_small c 2))
          · exact ofC_asc 92 (by omega) (by omega) (ofC_asc 117 (by omega) (by omega) (ofC_small c 4))
theorem ofC_wdF (s : ByteArray) (f : Nat) : ∀ i, ofC (wdF s f i) := by
  induction f with
  | zero => exact fun _ => ofC_nil
  | succ f ih =>
    intro i
    rw [wdF]
    split
    · exact ofC_app (ofC_esc _ (dcN_le s i)) (ih _)
    · exact ofC_nil
theorem rest8_zero (l : List UInt8) : rest8 ⟨l.toArray⟩ 0 = l := by simp [rest8]
/-- Double-quoted, a text is shown whole. -/
theorem wdL_shown (s : ByteArray) (f : Nat) : shqF ⟨(wdL s).toArray⟩ f 0 = true := by
  obtain ⟨cs, h, hc⟩ : ofC (wdL s) := by
    unfold wdL
    exact ofC_app (ofC_asc 34 (by omega) (by omega) (ofC_wdF s s.size 0)) (ofC_asc 34 (by omega) (by omega) ofC_nil)
  exact shqF_all cs hc _ 0 f (by rw [rest8_zero]; exact h)
end Go.Proofs.YtoobbmehjpninaaGreatDoor
