/- Plain: the character that begins at a place of a text by UTF-8, in cases (no program). -/
import Derived.WalkKit
namespace Go.Proofs.YtcmdpablbadloaaDoor

/-- A byte, as a number. -/
def bt (s : ByteArray) (j : Nat) : Nat := (s.get! j).toNat
/-- The character that begins at i and how many bytes it has; none: (0, 0). -/
def chr (s : ByteArray) (i : Nat) : Nat × Nat := if Utf8.decode s i = (65533, 1) then (0, 0) else Utf8.decode s i

theorem bt_lt (s : ByteArray) (j : Nat) : bt s j < 256 := (s.get! j).toNat_lt
theorem bt_get (s : ByteArray) (j : Nat) (h : j < s.size) : (s[j]'h).toNat = bt s j := by
  have e : s.get! j = s[j]'h := by simp [ByteArray.get!, getElem!_pos, h]; rfl
  rw [bt, e]

theorem valid_nat (c : Nat) : Utf8.valid (c : Int) = decide (c < 55296 ∨ 57344 ≤ c ∧ c ≤ 1114111) := by
  rw [Bool.eq_iff_iff]; simp [Utf8.valid]; omega

theorem chr_a {s : ByteArray} {i : Nat} (h : bt s i < 128) : chr s i = (bt s i, 1) := by
  have e : Utf8.decode s i = (bt s i, 1) := by
    unfold bt at *; simp [Utf8.decode, h]
  rw [chr, e]; simp; omega

theorem chr_b {s : ByteArray} {i : Nat} (h : 128 ≤ bt s i) (h' : bt s i < 194) : chr s i = (0, 0) := by
  have e : Utf8.decode s i = (65533, 1) := by
    have g1 := bt_lt s (i + 1)
    unfold bt at *
    simp only [Utf8.decode, Nat.add_zero, Utf8.runeError]
    rw [if_neg (by omega)]
    by_cases c : (s.get! i).toNat / 32 = 6
    · by_cases d : (i + 1 < s.size ∧ (s.get! (i + 1)).toNat / 64 = 2)
      · rw [if_pos (by simp [c, d]), if_neg (by omega)]
      · rw [if_neg (by simp [c]; omega), if_neg (by simp; omega), if_neg (by simp; omega)]
    · rw [if_neg (by simp [c]), if_neg (by simp; omega), if_neg (by simp; omega)]
  simp [chr, e]

theorem chr_f {s : ByteArray} {i : Nat} (h : 245 ≤ bt s i) : chr s i = (0, 0) := by
  have e : Utf8.decode s i = (65533, 1) := by
    have g1 := bt_lt s (i + 1); have g2 := bt_lt s (i + 2); have g3 := bt_lt s (i + 3)
    unfold bt at *
    simp only [Utf8.decode, Nat.add_zero, Utf8.runeError, valid_nat]
    rw [if_neg (by omega), if_neg (by simp; omega), if_neg (by simp; omega)]
    by_cases d : (s.get! i).toNat / 8 = 30 ∧ (i + 1 < s.size ∧ (s.get! (i + 1)).toNat / 64 = 2) ∧ (i + 2 < s.size ∧ (s.get! (i + 2)).toNat / 64 = 2) ∧ (i + 3 < s.size ∧ (s.get! (i + 3)).toNat / 64 = 2)
    · rw [if_pos (by simp [d]), if_neg (by simp; omega)]
    · rw [if_neg (by simp; omega)]
  simp [chr, e]

theorem chr_c {s : ByteArray} {i : Nat} (h : 194 ≤ bt s i) (h' : bt s i < 224) (hz : i + 1 < s.size) (h1 : 128 ≤ bt s (i + 1)) (h1' : bt s (i + 1) < 192) :
    chr s i = ((bt s i - 192) * 64 + (bt s (i + 1) - 128), 2) := by
  have e : Utf8.decode s i = ((bt s i - 192) * 64 + (bt s (i + 1) - 128), 2) := by
    unfold bt at *
    simp only [Utf8.decode, Nat.add_zero, Utf8.runeError]
    rw [if_neg (by omega), if_pos (by simp; omega), if_pos (by omega)]
    simp; omega
  rw [chr, e]; simp

theorem chr_c_no {s : ByteArray} {i : Nat} (h : 194 ≤ bt s i) (h' : bt s i < 224) (h1 : s.size ≤ i + 1 ∨ bt s (i + 1) < 128 ∨ 192 ≤ bt s (i + 1)) : chr s i = (0, 0) := by
  have e : Utf8.decode s i = (65533, 1) := by
    unfold bt at *
    simp only [Utf8.decode, Nat.add_zero, Utf8.runeError]
    rw [if_neg (by omega), if_neg (by simp; omega), if_neg (by simp; omega), if_neg (by simp; omega)]
  simp [chr, e]

theorem chr_d {s : ByteArray} {i : Nat} (h : 224 ≤ bt s i) (h' : bt s i < 240) (hz : i + 2 < s.size) (h1 : 128 ≤ bt s (i + 1)) (h1' : bt s (i + 1) < 192)
    (h2 : 128 ≤ bt s (i + 2)) (h2' : bt s (i + 2) < 192) (c : Nat) (hc : c + 224 * 4096 + 128 * 64 + 128 = bt s i * 4096 + bt s (i + 1) * 64 + bt s (i + 2)) :
    chr s i = if 2048 ≤ c ∧ (c < 55296 ∨ 57343 < c) then (c, 3) else (0, 0) := by
  have e : Utf8.decode s i = if 2048 ≤ c ∧ (c < 55296 ∨ 57343 < c) then (c, 3) else (65533, 1) := by
    unfold bt at *
    simp only [Utf8.decode, Nat.add_zero, Utf8.runeError, valid_nat]
    rw [if_neg (by omega), if_neg (by simp; omega), if_pos (by simp; omega)]
    have ec : (s.get! i).toNat % 16 * 4096 + (s.get! (i + 1)).toNat % 64 * 64 + (s.get! (i + 2)).toNat % 64 = c := by omega
    simp only [ec]
    by_cases k : 2048 ≤ c ∧ (c < 55296 ∨ 57343 < c)
    · rw [if_pos k, if_pos (by simp; omega)]
    · rw [if_neg k, if_neg (by simp; omega)]
  rw [chr, e]
  by_cases k : 2048 ≤ c ∧ (c < 55296 ∨ 57343 < c)
  · simp [k]
  · simp [k]

theorem chr_d_no {s : ByteArray} {i : Nat} (h : 224 ≤ bt s i) (h' : bt s i < 240) (h1 : s.size ≤ i + 2 ∨ bt s (i + 1) < 128 ∨ 192 ≤ bt s (i + 1) ∨ bt s (i + 2) < 128 ∨ 192 ≤ bt s (i + 2)) : chr s i = (0, 0) := by
  have e : Utf8.decode s i = (65533, 1) := by
    unfold bt at *
    simp only [Utf8.decode, Nat.add_zero, Utf8.runeError]
    rw [if_neg (by omega), if_neg (by simp; omega), if_neg (by simp; omega), if_neg (by simp; omega)]
  simp [chr, e]

theorem chr_e {s : ByteArray} {i : Nat} (h : 240 ≤ bt s i) (h' : bt s i < 245) (hz : i + 3 < s.size) (h1 : 128 ≤ bt s (i + 1)) (h1' : bt s (i + 1) < 192)
    (h2 : 128 ≤ bt s (i + 2)) (h2' : bt s (i + 2) < 192) (h3 : 128 ≤ bt s (i + 3)) (h3' : bt s (i + 3) < 192)
    (c : Nat) (hc : c + 240 * 262144 + 128 * 4096 + 128 * 64 + 128 = bt s i * 262144 + bt s (i + 1) * 4096 + bt s (i + 2) * 64 + bt s (i + 3)) :
    chr s i = if 65536 ≤ c ∧ c < 1114112 then (c, 4) else (0, 0) := by
  have e : Utf8.decode s i = if 65536 ≤ c ∧ c < 1114112 then (c, 4) else (65533, 1) := by
    unfold bt at *
    simp only [Utf8.decode, Nat.add_zero, Utf8.runeError, valid_nat]
    rw [if_neg (by omega), if_neg (by simp; omega), if_neg (by simp; omega), if_pos (by simp; omega)]
    have ec : (s.get! i).toNat % 8 * 262144 + (s.get! (i + 1)).toNat % 64 * 4096 + (s.get! (i + 2)).toNat % 64 * 64 + (s.get! (i + 3)).toNat % 64 = c := by omega
    simp only [ec]
    by_cases k : 65536 ≤ c ∧ c < 1114112
    · rw [if_pos k, if_pos (by simp; omega)]
    · rw [if_neg k, if_neg (by simp; omega)]
  rw [chr, e]
  by_cases k : 65536 ≤ c ∧ c < 1114112
  · simp [k]
  · simp [k]

theorem chr_e_no {s : ByteArray} {i : Nat} (h : 240 ≤ bt s i) (h' : bt s i < 245) (h1 : s.size ≤ i + 3 ∨ bt s (i + 1) < 128 ∨ 192 ≤ bt s (i + 1) ∨ bt s (i + 2) < 128 ∨ 192 ≤ bt s (i + 2) ∨ bt s (i + 3) < 128 ∨ 192 ≤ bt s (i + 3)) : chr s i = (0, 0) := by
  have e : Utf8.decode s i = (65533, 1) := by
    unfold bt at *
    simp only [Utf8.decode, Nat.add_zero, Utf8.runeError]
    rw [if_neg (by omega), if_neg (by simp; omega), if_neg (by simp; omega), if_neg (by simp; omega)]
  simp [chr, e]
end Go.Proofs.YtcmdpablbadloaaDoor
