/- Plain: where the first byte is with which no sign begins. -/
import Derived.Test.YtcmdpablbadloaaDoorPlc
import Derived.Test.YtcmdpablbadloaaDoorSign
import Derived.Lib.Strings
namespace Go.Proofs.YtcmdpablbadloaaDoor

def goodAt (s : ByteArray) (i : Nat) : Bool := decide ((chr s i).2 ≠ 0) && signB (chr s i).1
/-- The first place from i on at which no sign begins. -/
def ckf (s : ByteArray) : Nat → Nat → Option Nat
  | 0, _ => none
  | f + 1, i => if i < s.size then (if goodAt s i then ckf s f (i + wd s i) else some i) else none
def ck (s : ByteArray) : Nat × Nat := if 65536 < s.size then (1, 65536) else match ckf s s.size 0 with | none => (0, 0) | some i => (2, i)
theorem ckf_end (s : ByteArray) (f i : Nat) (h : s.size ≤ i) : ckf s f i = none := by
  cases f with
  | zero => rfl
  | succ f => rw [ckf, if_neg (by omega)]
theorem ckf_good (s : ByteArray) (f i : Nat) (h : i < s.size) (hg : goodAt s i = true) : ckf s (f + 1) i = ckf s f (i + wd s i) := by rw [ckf, if_pos h, if_pos hg]
theorem ckf_bad (s : ByteArray) (f i : Nat) (h : i < s.size) (hg : goodAt s i = false) : ckf s (f + 1) i = some i := by rw [ckf, if_pos h, if_neg (by simp [hg])]
theorem ck_none (s : ByteArray) (h : s.size ≤ 65536) (hc : ckf s s.size 0 = none) : ck s = (0, 0) := by rw [ck, if_neg (by omega), hc]
theorem ck_some (s : ByteArray) (h : s.size ≤ 65536) (i : Nat) (hc : ckf s s.size 0 = some i) : ck s = (2, i) := by rw [ck, if_neg (by omega), hc]
theorem ck_long (s : ByteArray) (h : 65536 < s.size) : ck s = (1, 65536) := by rw [ck, if_pos h]

def rep (s : ByteArray) (i : Nat) : Bool := Lib.hasPrefix (s.data.toList.drop i) [239, 191, 189]
theorem getb (s : ByteArray) (j : Nat) (h : j < s.size) : (s.data.toList[j]?).map UInt8.toNat = some (bt s j) := by
  have e := bt_get s j h
  have h' : j < s.data.toList.length := by simpa using h
  rw [List.getElem?_eq_getElem h']
  simp [← e]; rfl
theorem rep_yes (s : ByteArray) (i : Nat) (hz : i + 2 < s.size) (h0 : bt s i = 239) (h1 : bt s (i + 1) = 191) (h2 : bt s (i + 2) = 189) : rep s i = true := by
  have a0 := getb s i (by omega); have a1 := getb s (i + 1) (by omega); have a2 := getb s (i + 2) hz
  have l : i + 2 < s.data.toList.length := by simpa using hz
  rw [h0] at a0; rw [h1] at a1; rw [h2] at a2
  simp only [Option.map_eq_some_iff] at a0 a1 a2
  obtain ⟨x0, q0, r0⟩ := a0; obtain ⟨x1, q1, r1⟩ := a1; obtain ⟨x2, q2, r2⟩ := a2
  have e : s.data.toList.drop i = x0 :: x1 :: x2 :: s.data.toList.drop (i + 3) := by
    rw [List.drop_eq_getElem_cons (by omega), List.drop_eq_getElem_cons (by omega), List.drop_eq_getElem_cons (by omega)]
    rw [List.getElem?_eq_getElem (by omega)] at q0 q1 q2
    rw [Option.some.inj q0, Option.some.inj q1, Option.some.inj q2]
  have t0 : x0 = 239 := UInt8.toNat_inj.1 r0
  have t1 : x1 = 191 := UInt8.toNat_inj.1 r1
  have t2 : x2 = 189 := UInt8.toNat_inj.1 r2
  rw [rep, e, t0, t1, t2]; rfl
theorem rep_bytes (s : ByteArray) (i : Nat) (h : rep s i = true) : i + 2 < s.size ∧ bt s i = 239 ∧ bt s (i + 1) = 191 ∧ bt s (i + 2) = 189 := by
  unfold rep Lib.hasPrefix at h
  obtain ⟨t, ht⟩ := List.isPrefixOf_iff_prefix.1 h
  have hl : i + 2 < s.data.toList.length := by
    have := congrArg List.length ht; simp at this; simp; omega
  have hz : i + 2 < s.size := by simpa using hl
  have g : ∀ k (hk : k < 3), (s.data.toList[i + k]?) = ([239, 191, 189] : List UInt8)[k]? := by
    intro k hk
    rw [← List.getElem?_drop, ← ht, List.getElem?_append_left (by simpa using hk)]
  have a0 := getb s i (by omega); have a1 := getb s (i + 1) (by omega); have a2 := getb s (i + 2) hz
  have g0 := g 0 (by omega); have g1 := g 1 (by omega); have g2 := g 2 (by omega)
  rw [show i = i + 0 from rfl, g0] at a0; rw [g1] at a1; rw [g2] at a2
  simp at a0 a1 a2
  omega
theorem dec_rep (s : ByteArray) (i : Nat) (_h : i < s.size) : (rep s i = true → (Utf8.decode s i) = (65533, 3)) ∧ ((Utf8.decode s i).1 = 65533 → Utf8.decode s i ≠ (65533, 1) → rep s i = true) := by
  constructor
  · intro h
    obtain ⟨hz, h0, h1, h2⟩ := rep_bytes s i h
    have := chr_d (s := s) (i := i) (by omega) (by omega) hz (by omega) (by omega) (by omega) (by omega) 65533 (by omega)
    simp at this
    unfold chr at this
    split at this
    · simp at this
    · exact this
  · intro h h'
    have g0 := bt_lt s i; have g1 := bt_lt s (i + 1); have g2 := bt_lt s (i + 2); have g3 := bt_lt s (i + 3)
    have hc : chr s i = Utf8.decode s i := by unfold chr; rw [if_neg h']
    rw [← hc] at h
    by_cases a1 : bt s i < 128
    · rw [chr_a a1] at h; simp at h; omega
    by_cases a2 : bt s i < 194
    · rw [chr_b (by omega) a2] at h; simp at h
    by_cases a3 : 245 ≤ bt s i
    · rw [chr_f a3] at h; simp at h
    by_cases a4 : bt s i < 224
    · by_cases b : s.size ≤ i + 1 ∨ bt s (i + 1) < 128 ∨ 192 ≤ bt s (i + 1)
      · rw [chr_c_no (by omega) a4 b] at h; simp at h
      · rw [chr_c (by omega) a4 (by omega) (by omega) (by omega)] at h; simp at h; omega
    by_cases a5 : bt s i < 240
    · by_cases b : s.size ≤ i + 2 ∨ bt s (i + 1) < 128 ∨ 192 ≤ bt s (i + 1) ∨ bt s (i + 2) < 128 ∨ 192 ≤ bt s (i + 2)
      · rw [chr_d_no (by omega) a5 b] at h; simp at h
      · obtain ⟨c, hcc⟩ : ∃ c, c + 224 * 4096 + 128 * 64 + 128 = bt s i * 4096 + bt s (i + 1) * 64 + bt s (i + 2) := ⟨bt s i * 4096 + bt s (i + 1) * 64 + bt s (i + 2) - (224 * 4096 + 128 * 64 + 128), by omega⟩
        rw [chr_d (by omega) a5 (by omega) (by omega) (by omega) (by omega) (by omega) c hcc] at h
        split at h
        · simp at h
          exact rep_yes s i (by omega) (by omega) (by omega) (by omega)
        · simp at h
    by_cases b : s.size ≤ i + 3 ∨ bt s (i + 1) < 128 ∨ 192 ≤ bt s (i + 1) ∨ bt s (i + 2) < 128 ∨ 192 ≤ bt s (i + 2) ∨ bt s (i + 3) < 128 ∨ 192 ≤ bt s (i + 3)
    · rw [chr_e_no (by omega) (by omega) b] at h; simp at h
    · obtain ⟨c, hcc⟩ : ∃ c, c + 240 * 262144 + 128 * 4096 + 128 * 64 + 128 = bt s i * 262144 + bt s (i + 1) * 4096 + bt s (i + 2) * 64 + bt s (i + 3) := ⟨bt s i * 262144 + bt s (i + 1) * 4096 + bt s (i + 2) * 64 + bt s (i + 3) - (240 * 262144 + 128 * 4096 + 128 * 64 + 128), by omega⟩
      rw [chr_e (by omega) (by omega) (by omega) (by omega) (by omega) (by omega) (by omega) (by omega) (by omega) c hcc] at h
      split at h
      · simp at h; omega
      · simp at h
theorem good_yes (s : ByteArray) (i : Nat) (h : i < s.size) (hs : signB (Utf8.decode s i).1 = true) (hr : (Utf8.decode s i).1 = 65533 → rep s i = true) : goodAt s i = true := by
  have hne : Utf8.decode s i ≠ (65533, 1) := by
    intro e
    have := (dec_rep s i h).1 (hr (by rw [e]))
    rw [e] at this; simp at this
  have hc : chr s i = Utf8.decode s i := by unfold chr; rw [if_neg hne]
  have hw := wd_pos s i
  unfold wd at hw
  unfold goodAt
  rw [hc, hs]; simp; omega
theorem good_no (s : ByteArray) (i : Nat) (h : i < s.size) (hb : signB (Utf8.decode s i).1 = false ∨ (Utf8.decode s i).1 = 65533 ∧ rep s i = false) : goodAt s i = false := by
  unfold goodAt
  by_cases e : Utf8.decode s i = (65533, 1)
  · simp [chr, e]
  · have hc : chr s i = Utf8.decode s i := by unfold chr; rw [if_neg e]
    rw [hc]
    rcases hb with hb | ⟨h1, h2⟩
    · simp [hb]
    · have := (dec_rep s i h).2 h1 e
      rw [h2] at this; cases this
end Go.Proofs.YtcmdpablbadloaaDoor
