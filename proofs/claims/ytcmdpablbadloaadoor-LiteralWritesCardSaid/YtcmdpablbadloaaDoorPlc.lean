/- Plain: where a place is, by a count of characters. -/
import Derived.Test.YtcmdpablbadloaaDoorChr
namespace Go.Proofs.YtcmdpablbadloaaDoor

/-- How many bytes the character at i has; a byte that is no UTF-8 is one by itself. -/
def wd (s : ByteArray) (i : Nat) : Nat := (Utf8.decode s i).2
/-- The line and the column of place p, from the character at i on, which stands in line r at column c. -/
def pl (s : ByteArray) (p : Nat) : Nat → Nat → Nat → Nat → Nat × Nat
  | 0, _, r, c => (r, c)
  | f + 1, i, r, c => if i < p then (if bt s i = 10 then pl s p f (i + wd s i) (r + 1) 1 else pl s p f (i + wd s i) r (c + 1)) else (r, c)

theorem get_bt (s : ByteArray) (i k : Nat) : (s.get! (i + k)).toNat = bt s (i + k) := rfl
theorem wd_pos (s : ByteArray) (i : Nat) : 1 ≤ wd s i := by
  simp only [wd, Utf8.decode]
  repeat' split
  all_goals simp
theorem wd_le (s : ByteArray) (i : Nat) (h : i < s.size) : i + wd s i ≤ s.size := by
  simp only [wd, Utf8.decode]
  repeat' split
  all_goals simp_all
  all_goals omega
theorem dec_10 (s : ByteArray) (i : Nat) (h : i < s.size) : (Utf8.decode s i).1 = 10 ↔ bt s i = 10 := by
  have e := bt_get s i h
  by_cases ha : (s[i]'h).toNat < 128
  · rw [decode_ascii s i h ha]; simp [e]
  · have := decode_high s i h (by omega)
    omega
theorem dec_le (s : ByteArray) (i : Nat) : (Utf8.decode s i).1 ≤ 1114111 := by
  have hb : ∀ k, (s.get! (i + k)).toNat < 256 := fun k => (s.get! (i + k)).toNat_lt
  have h0 := hb 0; have h1 := hb 1; have h2 := hb 2; have h3 := hb 3
  simp only [Utf8.decode, valid_nat]
  repeat' split
  all_goals simp_all [Utf8.runeError]
  all_goals omega
theorem chr_wd (s : ByteArray) (i : Nat) : ((chr s i).2 = 0 ∧ wd s i = 1) ∨ ((chr s i).2 ≠ 0 ∧ (chr s i).2 = wd s i) := by
  have hw := wd_pos s i
  unfold wd at *
  by_cases h : Utf8.decode s i = (65533, 1)
  · left; simp [chr, h]
  · right; simp [chr, h]; omega
theorem pl_end (s : ByteArray) (p f i r c : Nat) (h : p ≤ i) : pl s p f i r c = (r, c) := by
  cases f with
  | zero => rfl
  | succ f => rw [pl, if_neg (by omega)]
theorem pl_feed (s : ByteArray) (p f i r c : Nat) (h : i < p) (hb : bt s i = 10) : pl s p (f + 1) i r c = pl s p f (i + wd s i) (r + 1) 1 := by
  rw [pl, if_pos h, if_pos hb]
theorem pl_sign (s : ByteArray) (p f i r c : Nat) (h : i < p) (hb : bt s i ≠ 10) : pl s p (f + 1) i r c = pl s p f (i + wd s i) r (c + 1) := by
  rw [pl, if_pos h, if_neg hb]
end Go.Proofs.YtcmdpablbadloaaDoor
