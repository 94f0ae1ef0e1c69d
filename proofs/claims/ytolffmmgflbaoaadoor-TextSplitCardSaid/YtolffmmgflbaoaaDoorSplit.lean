/- Plain: the first wrong byte of two texts with a line feed between. -/
import Derived.Test.YtolffmmgflbaoaaDoorCk
namespace Go.Proofs.YtolffmmgflbaoaaDoor

def cont (s : ByteArray) (j : Nat) : Prop := j < s.size ∧ bt s j / 64 = 2
theorem decode_same (s u : ByteArray) (i j : Nat) (h0 : bt s i = bt u j) (h1 : cont s (i + 1) ↔ cont u (j + 1)) (h2 : cont s (i + 1) → (bt s (i + 1) = bt u (j + 1) ∧ (cont s (i + 2) ↔ cont u (j + 2))))
    (h3 : cont s (i + 1) → cont s (i + 2) → (bt s (i + 2) = bt u (j + 2) ∧ (cont s (i + 3) ↔ cont u (j + 3)))) (h4 : cont s (i + 1) → cont s (i + 2) → cont s (i + 3) → bt s (i + 3) = bt u (j + 3)) :
    Utf8.decode s i = Utf8.decode u j := by
  have e : ∀ (x : ByteArray) (k m : Nat), (decide (k + m < x.size) && (x.get! (k + m)).toNat / 64 == 2) = true ↔ cont x (k + m) := by
    intro x k m; simp [cont, bt]
  have e0 : (s.get! i).toNat = (u.get! j).toNat := h0
  simp only [Utf8.decode, Nat.add_zero, e0]
  by_cases a : (u.get! j).toNat < 128
  · rw [if_pos a, if_pos a]
  rw [if_neg a, if_neg a]
  by_cases c1 : cont s (i + 1)
  · have c1' := h1.1 c1
    have q1 := (e s i 1).2 c1
    have q1' := (e u j 1).2 c1'
    obtain ⟨h2a, h2b⟩ := h2 c1
    have v1 : (s.get! (i + 1)).toNat = (u.get! (j + 1)).toNat := h2a
    by_cases c2 : cont s (i + 2)
    · have c2' := h2b.1 c2
      have q2 := (e s i 2).2 c2
      have q2' := (e u j 2).2 c2'
      obtain ⟨h3a, h3b⟩ := h3 c1 c2
      have v2 : (s.get! (i + 2)).toNat = (u.get! (j + 2)).toNat := h3a
      by_cases c3 : cont s (i + 3)
      · have c3' := h3b.1 c3
        have q3 := (e s i 3).2 c3
        have q3' := (e u j 3).2 c3'
        have v3 : (s.get! (i + 3)).toNat = (u.get! (j + 3)).toNat := h4 c1 c2 c3
        simp only [q1, q1', q2, q2', q3, q3']; simp only [v1, v2, v3]
      · have q3 : (decide (i + 3 < s.size) && (s.get! (i + 3)).toNat / 64 == 2) = false := by rw [← Bool.not_eq_true, e]; exact c3
        have q3' : (decide (j + 3 < u.size) && (u.get! (j + 3)).toNat / 64 == 2) = false := by rw [← Bool.not_eq_true, e]; exact fun h => c3 (h3b.2 h)
        simp only [q1, q1', q2, q2', q3, q3', Bool.and_false, Bool.false_eq_true, if_false]; simp only [v1, v2]
    · have q2 : (decide (i + 2 < s.size) && (s.get! (i + 2)).toNat / 64 == 2) = false := by rw [← Bool.not_eq_true, e]; exact c2
      have q2' : (decide (j + 2 < u.size) && (u.get! (j + 2)).toNat / 64 == 2) = false := by rw [← Bool.not_eq_true, e]; exact fun h => c2 (h2b.2 h)
      simp only [q1, q1', q2, q2', Bool.and_false, Bool.false_and, Bool.false_eq_true, if_false]; simp only [v1]
  · have q1 : (decide (i + 1 < s.size) && (s.get! (i + 1)).toNat / 64 == 2) = false := by rw [← Bool.not_eq_true, e]; exact c1
    have q1' : (decide (j + 1 < u.size) && (u.get! (j + 1)).toNat / 64 == 2) = false := by rw [← Bool.not_eq_true, e]; exact fun h => c1 (h1.2 h)
    simp only [q1, q1', Bool.and_false, Bool.false_and, Bool.false_eq_true, if_false]

/-- u is s, a line feed, t. -/
structure Joined (s t u : ByteArray) : Prop where
  size : u.size = s.size + 1 + t.size
  left : ∀ j, j < s.size → bt u j = bt s j
  mid : bt u s.size = 10
  right : ∀ j, j < t.size → bt u (s.size + 1 + j) = bt t j

theorem joined_left {s t u : ByteArray} (h : Joined s t u) (i : Nat) (hi : i < s.size) : Utf8.decode s i = Utf8.decode u i := by
  have hs := h.size
  have c : ∀ j, j ≤ s.size → (cont s j ↔ cont u j) := by
    intro j hj
    rcases Nat.lt_or_ge j s.size with hl | hg
    · have := h.left j hl
      unfold cont; rw [this]; constructor
      · rintro ⟨a, b⟩; exact ⟨by omega, b⟩
      · rintro ⟨a, b⟩; exact ⟨hl, b⟩
    · obtain rfl : j = s.size := by omega
      have hm := h.mid
      unfold cont; rw [hm]; constructor
      · rintro ⟨a, _⟩; omega
      · rintro ⟨_, b⟩; simp at b
  have l : ∀ j, cont s j → bt s j = bt u j := fun j hj => (h.left j hj.1).symm
  refine decode_same s u i i (h.left i hi).symm (c _ (by omega)) (fun c1 => ⟨l _ c1, c _ (by have := c1.1; omega)⟩) (fun c1 c2 => ⟨l _ c2, c _ (by have := c2.1; omega)⟩) (fun _ _ c3 => l _ c3)
theorem joined_mid {s t u : ByteArray} (h : Joined s t u) : Utf8.decode u s.size = (10, 1) := by
  have hs := h.size
  have e := bt_get u s.size (by omega)
  rw [h.mid] at e
  rw [decode_ascii u s.size (by omega) (by omega), e]
theorem joined_right {s t u : ByteArray} (h : Joined s t u) (i : Nat) (hi : i < t.size) : Utf8.decode t i = Utf8.decode u (s.size + 1 + i) := by
  have hs := h.size
  have c : ∀ j, (cont t j ↔ cont u (s.size + 1 + j)) := by
    intro j
    unfold cont
    rcases Nat.lt_or_ge j t.size with hl | hg
    · rw [h.right j hl]; constructor
      · rintro ⟨a, b⟩; exact ⟨by omega, b⟩
      · rintro ⟨a, b⟩; exact ⟨hl, b⟩
    · constructor
      · rintro ⟨a, _⟩; omega
      · rintro ⟨a, _⟩; omega
  have l : ∀ j, cont t j → bt t j = bt u (s.size + 1 + j) := fun j hj => (h.right j hj.1).symm
  exact decode_same t u i (s.size + 1 + i) (h.right i hi).symm (c (i + 1)) (fun c1 => ⟨l _ c1, c (i + 2)⟩) (fun _ c2 => ⟨l _ c2, c (i + 3)⟩) (fun _ _ c3 => l _ c3)

theorem good_of_decode {s u : ByteArray} {i j : Nat} (h : Utf8.decode s i = Utf8.decode u j) : goodAt s i = goodAt u j ∧ wd s i = wd u j := by
  unfold goodAt chr wd; rw [h]; exact ⟨rfl, rfl⟩

theorem ckf_fuel (s : ByteArray) : ∀ (f g i : Nat), s.size ≤ i + f → s.size ≤ i + g → ckf s f i = ckf s g i := by
  intro f
  induction f with
  | zero => intro g i h1 _; rw [ckf_end s g i (by omega)]; rfl
  | succ f ih =>
    intro g i h1 h2
    by_cases hl : i < s.size
    · obtain ⟨g, rfl⟩ : ∃ k, g = k + 1 := ⟨g - 1, by omega⟩
      have hw := wd_pos s i
      by_cases hg : goodAt s i = true
      · rw [ckf_good s f i hl hg, ckf_good s g i hl hg]; exact ih g _ (by omega) (by omega)
      · rw [ckf_bad s f i hl (by simpa using hg), ckf_bad s g i hl (by simpa using hg)]
    · rw [ckf_end s _ i (by omega), ckf_end s g i (by omega)]

theorem ckf_right {s t u : ByteArray} (h : Joined s t u) : ∀ (f j : Nat), ckf u f (s.size + 1 + j) = (ckf t f j).map (s.size + 1 + ·) := by
  have hs := h.size
  intro f
  induction f with
  | zero => intro j; rfl
  | succ f ih =>
    intro j
    by_cases hl : j < t.size
    · obtain ⟨h1, h2⟩ := good_of_decode (joined_right h j hl)
      by_cases hg : goodAt t j = true
      · rw [ckf_good t f j hl hg, ckf_good u f _ (by omega) (by rw [← h1]; exact hg), ← h2, Nat.add_assoc _ j, ih]
      · rw [ckf_bad t f j hl (by simpa using hg), ckf_bad u f _ (by omega) (by rw [← h1]; simpa using hg)]; rfl
    · rw [ckf_end t _ j (by omega), ckf_end u _ _ (by omega)]; rfl

theorem good_mid {s t u : ByteArray} (h : Joined s t u) : goodAt u s.size = true ∧ wd u s.size = 1 := by
  unfold goodAt chr wd; rw [joined_mid h]; exact ⟨by decide, rfl⟩

theorem ckf_joined {s t u : ByteArray} (h : Joined s t u) : ∀ (f i : Nat), i ≤ s.size → s.size ≤ i + f →
    ckf u (f + 1 + t.size) i = match ckf s f i with | some k => some k | none => (ckf t t.size 0).map (s.size + 1 + ·) := by
  have hs := h.size
  have base : ∀ f, ckf u (f + 1 + t.size) s.size = (ckf t t.size 0).map (s.size + 1 + ·) := by
    intro f
    obtain ⟨g1, g2⟩ := good_mid h
    rw [show f + 1 + t.size = (f + t.size) + 1 by omega, ckf_good u _ _ (by omega) g1, g2]
    have := ckf_right h (f + t.size) 0
    rw [Nat.add_zero] at this
    rw [this, ckf_fuel t (f + t.size) t.size 0 (by omega) (by omega)]
  intro f
  induction f with
  | zero =>
    intro i h1 h2
    obtain rfl : i = s.size := by omega
    exact base 0
  | succ f ih =>
    intro i h1 h2
    by_cases hl : i < s.size
    · obtain ⟨g1, g2⟩ := good_of_decode (joined_left h i hl)
      have hw := wd_pos s i
      have hw2 := wd_le s i hl
      rw [show f + 1 + 1 + t.size = (f + 1 + t.size) + 1 by omega]
      by_cases hg : goodAt s i = true
      · rw [ckf_good s f i hl hg, ckf_good u _ i (by omega) (by rw [← g1]; exact hg), ← g2]
        exact ih _ (by omega) (by omega)
      · rw [ckf_bad s f i hl (by simpa using hg), ckf_bad u _ i (by omega) (by rw [← g1]; simpa using hg)]
    · obtain rfl : i = s.size := by omega
      rw [base, ckf_end s _ _ (by omega)]

/-- The first wrong byte of two texts with a line feed between. -/
theorem ck_joined {s t u : ByteArray} (h : Joined s t u) (h1 : s.size ≤ 30000) (h2 : t.size ≤ 30000) :
    (∃ i, ck s = (2, i) ∧ ck u = (2, i)) ∨ (ck s = (0, 0) ∧ ck t = (0, 0) ∧ ck u = (0, 0)) ∨ (∃ i, ck s = (0, 0) ∧ ck t = (2, i) ∧ ck u = (2, s.size + 1 + i)) := by
  have hs := h.size
  have k := ckf_joined h s.size 0 (by omega) (by omega)
  rw [show s.size + 1 + t.size = u.size by omega] at k
  cases e1 : ckf s s.size 0 with
  | some i =>
    rw [e1] at k
    exact .inl ⟨i, ck_some s (by omega) i e1, ck_some u (by omega) i k⟩
  | none =>
    rw [e1] at k
    have a := ck_none s (by omega) e1
    cases e2 : ckf t t.size 0 with
    | none => rw [e2] at k; exact .inr (.inl ⟨a, ck_none t (by omega) e2, ck_none u (by omega) k⟩)
    | some i => rw [e2] at k; exact .inr (.inr ⟨i, a, ck_some t (by omega) i e2, ck_some u (by omega) _ k⟩)
end Go.Proofs.YtolffmmgflbaoaaDoor
