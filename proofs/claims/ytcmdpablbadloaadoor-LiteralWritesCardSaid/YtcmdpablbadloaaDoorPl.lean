
/- Plain: where a plain text ends (no program). -/
import Derived.Test.YtcmdpablbadloaaDoorParts
import Derived.Lib.TrimByte
namespace Go.Proofs.YtcmdpablbadloaaDoor

/-- Ahead of which place a plain text that begins at i ends, blanks with it. -/
def endOf (s : ByteArray) (fl : Bool) (i : Nat) : Nat := ((List.range' (i + 1) (s.size - (i + 1))).find? fun k => endsB s k fl).getD s.size
theorem endOf_eq {s : ByteArray} {fl : Bool} {i E : Nat} (h1 : i < E) (h2 : E ≤ s.size) (h3 : E = s.size ∨ endsB s E fl = true) (h4 : ∀ k, i < k → k < E → endsB s k fl = false) : endOf s fl i = E := by
  unfold endOf
  by_cases hE : E < s.size
  · have h5 : endsB s E fl = true := by rcases h3 with h3 | h3; omega; exact h3
    have : (List.range' (i + 1) (s.size - (i + 1))).find? (fun k => endsB s k fl) = some E := by
      rw [List.find?_range'_eq_some]
      refine ⟨h5, by rw [List.mem_range']; exact ⟨E - (i + 1), by omega, by omega⟩, ?_⟩
      intro j hj hjE
      simp [h4 j (by omega) hjE]
    rw [this]; rfl
  · have hE' : E = s.size := by omega
    have : (List.range' (i + 1) (s.size - (i + 1))).find? (fun k => endsB s k fl) = none := by
      rw [List.find?_eq_none]
      intro k hk
      rw [List.mem_range'] at hk
      obtain ⟨d, hd, rfl⟩ := hk
      have := h4 (i + 1 + 1 * d) (by omega) (by omega)
      simpa using this
    rw [this, hE']; rfl
theorem endOf_is {s : ByteArray} {fl : Bool} {i : Nat} (h : i < s.size) : i < endOf s fl i ∧ endOf s fl i ≤ s.size ∧ ∀ k, i < k → k < endOf s fl i → endsB s k fl = false := by
  cases hf : (List.range' (i + 1) (s.size - (i + 1))).find? (fun k => endsB s k fl) with
  | some E =>
    have e : endOf s fl i = E := by unfold endOf; rw [hf]; rfl
    rw [List.find?_range'_eq_some] at hf
    obtain ⟨_, hm, hn⟩ := hf
    rw [List.mem_range'] at hm
    obtain ⟨d, hd, rfl⟩ := hm
    rw [e]
    exact ⟨by omega, by omega, fun k hk hk' => by have := hn k (by omega) hk'; simpa using this⟩
  | none =>
    have e : endOf s fl i = s.size := by unfold endOf; rw [hf]; rfl
    rw [List.find?_eq_none] at hf
    rw [e]
    refine ⟨h, by omega, fun k hk hk' => ?_⟩
    have := hf k (by rw [List.mem_range']; exact ⟨k - (i + 1), by omega, by omega⟩)
    simpa using this
/-- The first n bytes without the blanks at their end. -/
def tr (s : ByteArray) : Nat → Nat
  | 0 => 0
  | n + 1 => if bt s n = 32 then tr s n else n + 1
theorem tr_le (s : ByteArray) (n : Nat) : tr s n ≤ n := by
  induction n with
  | zero => exact Nat.le_refl _
  | succ n ih => unfold tr; split <;> omega
theorem tr_gt (s : ByteArray) (i n : Nat) (h : bt s i ≠ 32) (hi : i < n) : i < tr s n := by
  induction n with
  | zero => omega
  | succ n ih =>
    unfold tr
    split
    · by_cases e : i = n
      · subst e; contradiction
      · exact ih (by omega)
    · omega
theorem tr_blank (s : ByteArray) (n : Nat) : ∀ j, tr s n ≤ j → j < n → bt s j = 32 := by
  induction n with
  | zero => intro j _ h; omega
  | succ n ih =>
    intro j h1 h2
    unfold tr at h1
    split at h1
    · by_cases e : j = n
      · subst e; assumption
      · exact ih j h1 (by omega)
    · omega
theorem tr_last (s : ByteArray) (n : Nat) (h : 0 < tr s n) : bt s (tr s n - 1) ≠ 32 := by
  induction n with
  | zero => simp [tr] at h
  | succ n ih =>
    unfold tr at h ⊢
    split
    · rename_i hb; rw [if_pos hb] at h; exact ih h
    · simpa
theorem tr_eq (s : ByteArray) (n m : Nat) (h1 : m ≤ n) (h2 : ∀ j, m ≤ j → j < n → bt s j = 32) (h3 : 0 < m → bt s (m - 1) ≠ 32) : tr s n = m := by
  induction n with
  | zero => unfold tr; omega
  | succ n ih =>
    unfold tr
    by_cases e : m = n + 1
    · rw [if_neg (by have := h3 (by omega); rw [e] at this; simpa using this)]; omega
    · rw [if_pos (h2 n (by omega) (by omega))]
      exact ih (by omega) (fun j a b => h2 j a (by omega))
theorem trim_size (s : ByteArray) (E : Nat) (h : E ≤ s.size) : (Lib.trimRightB (s.extract 0 E).data.toList 32).length = tr s E := by
  have hl : (s.extract 0 E).data.toList = s.data.toList.take E := by simp [ByteArray.data_extract]
  have hat : ∀ j b, (s.data.toList.take E)[j]? = some b → j < E ∧ b.toNat = bt s j := by
    intro j b hb
    have hj : j < E := by
      have := (List.getElem?_eq_some_iff.1 hb).1; simp at this; omega
    refine ⟨hj, ?_⟩
    have e := bt_get s j (by omega)
    rw [List.getElem?_take_of_lt hj, List.getElem?_eq_getElem (by simpa using (show j < s.size by omega))] at hb
    rw [← e, ← Option.some.inj hb]; rfl
  have h0 := tr_le s E
  rw [hl, Lib.trimRightB_take _ 32 (tr s E) (by simp; omega)]
  · simp; omega
  · intro j b hj hb
    obtain ⟨h1, h2⟩ := hat j b hb
    have := tr_blank s E j hj h1
    exact UInt8.toNat_inj.1 (by rw [h2, this]; rfl)
  · intro b hp hb e
    obtain ⟨h1, h2⟩ := hat _ b hb
    have := tr_last s E hp
    rw [← h2, e] at this
    exact this rfl
/-- Where the plain text at i ends. -/
def plainE (s : ByteArray) (fl : Bool) (i : Nat) : Nat := tr s (endOf s fl i)
theorem begins_ne {s : ByteArray} {i : Nat} {fl : Bool} (h : beginsB s i fl = true) : bt s i ≠ 32 := by
  intro e; unfold beginsB at h; rw [if_pos e] at h; cases h
end Go.Proofs.YtcmdpablbadloaaDoor
