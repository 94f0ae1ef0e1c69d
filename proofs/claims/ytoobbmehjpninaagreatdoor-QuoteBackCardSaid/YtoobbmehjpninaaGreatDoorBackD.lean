/- Reading what was written between double marks; plain: no walk. -/
import Derived.Test.YtoobbmehjpninaaGreatDoorCutD
namespace Go.Proofs.YtoobbmehjpninaaGreatDoor
open Go.RowKit

theorem rest8_at {t : ByteArray} {i : Nat} (h : i < t.size) : rest8 t i = UInt8.ofNat (bt t i) :: rest8 t (i + 1) := by
  unfold rest8
  rw [List.drop_eq_getElem_cons (by simpa using h)]
  congr 1
  have h3 : (t[i]).toNat = bt t i := bt_get t i h
  apply UInt8.toNat_inj.mp
  have : bt t i < 256 := bt_lt t i
  rw [← h3]
  simp; rfl
theorem ofn {a b : Nat} (h : a = b) : UInt8.ofNat a = UInt8.ofNat b := by rw [h]

/-- A character's bytes are those that stand there. -/
theorem chr_enc {s : ByteArray} {i c m : Nat} (h : i < s.size) (hc : chr s i = (c, m)) (hm : m ≠ 0) :
    rest8 s i = encB c ++ rest8 s (i + m) ∧ i + m ≤ s.size ∧ c ≤ 1114111 ∧ ¬ (55296 ≤ c ∧ c ≤ 57343) := by
  have b0 := bt_lt s i
  have b1 := bt_lt s (i + 1)
  have b2 := bt_lt s (i + 2)
  have b3 := bt_lt s (i + 3)
  by_cases h1 : bt s i < 128
  · rw [chr_a h1] at hc
    cases hc
    refine ⟨?_, by omega, by omega, by omega⟩
    rw [rest8_at h, encB, if_pos h1]; rfl
  by_cases h2 : bt s i < 194
  · rw [chr_b (by omega) h2] at hc; cases hc; exact absurd rfl hm
  by_cases h3 : bt s i < 224
  · by_cases hx : s.size ≤ i + 1 ∨ bt s (i + 1) < 128 ∨ 192 ≤ bt s (i + 1)
    · rw [chr_c_no (by omega) h3 hx] at hc; cases hc; exact absurd rfl hm
    · obtain ⟨d, hd⟩ : ∃ d, (bt s i - 192) * 64 + (bt s (i + 1) - 128) = d := ⟨_, rfl⟩
      rw [chr_c (by omega) h3 (by omega) (by omega) (by omega), hd] at hc
      cases hc
      refine ⟨?_, by omega, by omega, by omega⟩
      rw [rest8_at h, rest8_at (i := i + 1) (by omega), encB, if_neg (by omega), if_pos (by omega)]
      have e0 : bt s i = 192 + c / 64 := by omega
      have e1 : bt s (i + 1) = 128 + c % 64 := by omega
      rw [ofn e0, ofn e1]; rfl
  by_cases h4 : bt s i < 240
  · by_cases hx : s.size ≤ i + 2 ∨ bt s (i + 1) < 128 ∨ 192 ≤ bt s (i + 1) ∨ bt s (i + 2) < 128 ∨ 192 ≤ bt s (i + 2)
    · rw [chr_d_no (by omega) h4 hx] at hc; cases hc; exact absurd rfl hm
    · obtain ⟨d, hd⟩ : ∃ d, d + 224 * 4096 + 128 * 64 + 128 = bt s i * 4096 + bt s (i + 1) * 64 + bt s (i + 2) := ⟨bt s i * 4096 + bt s (i + 1) * 64 + bt s (i + 2) - (224 * 4096 + 128 * 64 + 128), by omega⟩
      rw [chr_d (by omega) h4 (by omega) (by omega) (by omega) (by omega) (by omega) d hd] at hc
      split at hc
      · rename_i hk
        cases hc
        refine ⟨?_, by omega, by omega, by omega⟩
        rw [rest8_at h, rest8_at (i := i + 1) (by omega), rest8_at (i := i + 2) (by omega), encB, if_neg (by omega), if_neg (by omega), if_pos (by omega)]
        have e0 : bt s i = 224 + c / 4096 := by omega
        have e1 : bt s (i + 1) = 128 + c / 64 % 64 := by omega
        have e2 : bt s (i + 2) = 128 + c % 64 := by omega
        rw [ofn e0, ofn e1, ofn e2]; rfl
      · cases hc; exact absurd rfl hm
  by_cases h5 : bt s i < 245
  · by_cases hx : s.size ≤ i + 3 ∨ bt s (i + 1) < 128 ∨ 192 ≤ bt s (i + 1) ∨ bt s (i + 2) < 128 ∨ 192 ≤ bt s (i + 2) ∨ bt s (i + 3) < 128 ∨ 192 ≤ bt s (i + 3)
    · rw [chr_e_no (by omega) h5 hx] at hc; cases hc; exact absurd rfl hm
    · obtain ⟨d, hd⟩ : ∃ d, d + 240 * 262144 + 128 * 4096 + 128 * 64 + 128 = bt s i * 262144 + bt s (i + 1) * 4096 + bt s (i + 2) * 64 + bt s (i + 3) := ⟨bt s i * 262144 + bt s (i + 1) * 4096 + bt s (i + 2) * 64 + bt s (i + 3) - (240 * 262144 + 128 * 4096 + 128 * 64 + 128), by omega⟩
      rw [chr_e (by omega) h5 (by omega) (by omega) (by omega) (by omega) (by omega) (by omega) (by omega) d hd] at hc
      split at hc
      · rename_i hk
        cases hc
        refine ⟨?_, by omega, by omega, by omega⟩
        rw [rest8_at h, rest8_at (i := i + 1) (by omega), rest8_at (i := i + 2) (by omega), rest8_at (i := i + 3) (by omega), encB, if_neg (by omega), if_neg (by omega), if_neg (by omega)]
        have e0 : bt s i = 240 + c / 262144 := by omega
        have e1 : bt s (i + 1) = 128 + c / 4096 % 64 := by omega
        have e2 : bt s (i + 2) = 128 + c / 64 % 64 := by omega
        have e3 : bt s (i + 3) = 128 + c % 64 := by omega
        rw [ofn e0, ofn e1, ofn e2, ofn e3]; rfl
      · cases hc; exact absurd rfl hm
  rw [chr_f (by omega)] at hc; cases hc; exact absurd rfl hm

/-- A token and what it says. -/
def tokV (p v : List UInt8) : Prop :=
  (∃ b : UInt8, p = [b] ∧ v = [b] ∧ b.toNat ≠ 34 ∧ b.toNat ≠ 92) ∨
  (∃ (u : List UInt8) (c : Nat), p = 92 :: u ∧ v = encB c ∧ 1 ≤ u.length ∧ ∀ (t : ByteArray) (i : Nat) (r : List UInt8), rest8 t i = 92 :: u ++ r → escN t i = ((c : Int), ((u.length + 1 : Nat) : Int)))
theorem DOut.pre_done (o l : List UInt8) (n : Nat) : (DOut.done l n).pre o = .done (o ++ l) n := rfl

theorem rdD_back (ps : List (List UInt8 × List UInt8)) : (∀ p ∈ ps, tokV p.1 p.2) → ∀ (t : ByteArray) (i f : Nat) (r : List UInt8),
    rest8 t i = (ps.map Prod.fst).flatten ++ 34 :: r → (ps.map Prod.fst).flatten.length < f →
    rdD t f i = .done (ps.map Prod.snd).flatten (i + (ps.map Prod.fst).flatten.length + 1) := by
  induction ps with
  | nil =>
    intro _ t i f r h hf
    obtain ⟨f, rfl⟩ : ∃ g, f = g + 1 := ⟨f - 1, by omega⟩
    simp only [List.map_nil, List.flatten_nil, List.nil_append] at h
    obtain ⟨hi, _, hb, _⟩ := rest8_cons h
    rw [rdD_stop hi hb]; simp
  | cons p ps ih =>
    intro hts t i f r h hf
    have ih := ih (fun p hp => hts p (List.mem_cons_of_mem _ hp))
    obtain ⟨f, rfl⟩ : ∃ g, f = g + 1 := ⟨f - 1, by omega⟩
    obtain ⟨p, v⟩ := p
    simp only [List.map_cons, List.flatten_cons, List.append_assoc, List.length_append] at h hf ⊢
    rcases hts (p, v) (List.mem_cons_self ..) with ⟨b, hp, hv, hb1, hb2⟩ | ⟨u, c, hp, hv, hu, hesc⟩
    · simp only at hp hv
      subst hp hv
      simp only [List.cons_append, List.nil_append, List.length_singleton] at h hf ⊢
      obtain ⟨hi, he, hb, h2⟩ := rest8_cons h
      rw [rdD_one hi (by omega) (by omega), ih t (i + 1) f r h2 (by omega), he, DOut.pre_done]
      simp only [List.cons_append, List.nil_append]
      congr 1; omega
    · simp only at hp hv
      subst hp hv
      have h2 := hesc t i _ h
      simp only [List.cons_append] at h
      obtain ⟨hi, he, hb, h3⟩ := rest8_cons h
      simp only [List.length_cons] at hf ⊢
      have e2 : (escN t i).2 = ((u.length + 1 : Nat) : Int) := by rw [h2]
      have e1 : (escN t i).1.toNat = c := by rw [h2]; simp
      rw [rdD_esc hi hb (by rw [e2]; omega), e1, show (escN t i).2.toNat = u.length + 1 by rw [e2]; simp]
      rw [ih t (i + (u.length + 1)) f r (by rw [← Nat.add_assoc, Nat.add_right_comm, rest8_add (t := t) (i := i + 1), h3]; simp) (by omega), DOut.pre_done]
      congr 1; omega

theorem hexN_dig {d : Nat} (h : d < 16) : hexN (dig d).toNat = d := by
  have := dig_val d h
  unfold hexN
  split at this
  · rw [if_neg (by omega), if_pos (by omega)]; omega
  · rw [if_pos (by omega)]; omega
theorem num2 {t : ByteArray} {i v : Nat} {r : List UInt8} (h : rest8 t i = smallL v 2 ++ r) (hv : v < 256) : numR t i 2 = v := by
  simp only [smallL, List.cons_append, List.nil_append] at h
  obtain ⟨h0, _, b0, h⟩ := rest8_cons h
  obtain ⟨h1, _, b1, h⟩ := rest8_cons h
  have d0 := hexN_dig (d := v / 16 ^ 1 % 16) (by omega)
  have d1 := hexN_dig (d := v / 16 ^ 0 % 16) (by omega)
  rw [← b0] at d0
  rw [← b1] at d1
  have e : numO t i 2 = some v := by
    simp only [numO, Nat.add_zero, d0, d1]
    rw [if_neg (by omega)]
    simp only
    rw [if_neg (by omega)]
    congr 1
    simp; omega
  unfold numR
  rw [if_neg (by omega), e]
theorem num4 {t : ByteArray} {i v : Nat} {r : List UInt8} (h : rest8 t i = smallL v 4 ++ r) (hv : v < 65536) : numR t i 4 = v := by
  simp only [smallL, List.cons_append, List.nil_append] at h
  obtain ⟨h0, _, b0, h⟩ := rest8_cons h
  obtain ⟨h1, _, b1, h⟩ := rest8_cons h
  obtain ⟨h2, _, b2, h⟩ := rest8_cons h
  obtain ⟨h3, _, b3, h⟩ := rest8_cons h
  have d0 := hexN_dig (d := v / 16 ^ 3 % 16) (by omega)
  have d1 := hexN_dig (d := v / 16 ^ 2 % 16) (by omega)
  have d2 := hexN_dig (d := v / 16 ^ 1 % 16) (by omega)
  have d3 := hexN_dig (d := v / 16 ^ 0 % 16) (by omega)
  rw [← b0] at d0
  rw [← b1] at d1
  rw [← b2] at d2
  rw [← b3] at d3
  have e : numO t i 4 = some v := by
    simp only [numO, Nat.add_zero, d0, d1, d2, d3]
    rw [if_neg (by omega)]
    simp only
    rw [if_neg (by omega)]
    simp only
    rw [if_neg (by omega)]
    simp only
    rw [if_neg (by omega)]
    congr 1
    simp; omega
  unfold numR
  rw [if_neg (by omega), e]

theorem tokV_one {p v : List UInt8} (h : tokV p v) : ∃ ps : List (List UInt8 × List UInt8), p = (ps.map Prod.fst).flatten ∧ v = (ps.map Prod.snd).flatten ∧ ∀ p ∈ ps, tokV p.1 p.2 :=
  ⟨[(p, v)], by simp, by simp, fun q hq => by simp only [List.mem_singleton] at hq; subst hq; exact h⟩
theorem tokV_plain (l : List UInt8) (h : ∀ b ∈ l, b.toNat ≠ 34 ∧ b.toNat ≠ 92) : ∃ ps : List (List UInt8 × List UInt8), l = (ps.map Prod.fst).flatten ∧ l = (ps.map Prod.snd).flatten ∧ ∀ p ∈ ps, tokV p.1 p.2 := by
  have e : l = (l.map fun b => [b]).flatten := by
    clear h
    induction l with
    | nil => rfl
    | cons b l ih => simp [← ih]
  refine ⟨l.map fun b => ([b], [b]), ?_, ?_, ?_⟩
  · rw [List.map_map]; exact e
  · rw [List.map_map]; exact e
  · intro p hp
    obtain ⟨b, hb, rfl⟩ := List.mem_map.mp hp
    exact .inl ⟨b, rfl, rfl, h b hb⟩
theorem rest_next {t : ByteArray} {i : Nat} {b c : UInt8} {r : List UInt8} (h : rest8 t i = b :: c :: r) : i + 1 < t.size ∧ bt t (i + 1) = c.toNat ∧ rest8 t (i + 2) = r := by
  obtain ⟨_, _, _, h⟩ := rest8_cons h
  obtain ⟨h1, _, h2, h3⟩ := rest8_cons h
  exact ⟨h1, h2, h3⟩
theorem escW_tokV (c : Nat) (h3 : c ≤ 1114111) (h4 : ¬ (55296 ≤ c ∧ c ≤ 57343)) :
    ∃ ps : List (List UInt8 × List UInt8), escW c = (ps.map Prod.fst).flatten ∧ encB c = (ps.map Prod.snd).flatten ∧ ∀ p ∈ ps, tokV p.1 p.2 := by
  unfold escW
  split
  · rename_i h
    refine tokV_one (.inr ⟨[UInt8.ofNat c], c, rfl, rfl, by simp, ?_⟩)
    intro t i r hr
    obtain ⟨g1, g2, _⟩ := rest_next hr
    have g3 : bt t (i + 1) = c := by rw [g2]; simp; omega
    unfold escN
    rw [if_neg (by omega), if_pos (by omega), g3]; rfl
  · rename_i hn
    split
    · rename_i h
      subst h
      refine tokV_one (.inr ⟨[110], 10, rfl, rfl, by simp, ?_⟩)
      intro t i r hr
      obtain ⟨g1, g2, _⟩ := rest_next hr
      have g3 : bt t (i + 1) = 110 := g2
      unfold escN
      rw [if_neg (by omega), if_neg (by omega), if_pos g3]; rfl
    · split
      · rename_i h
        subst h
        refine tokV_one (.inr ⟨[116], 9, rfl, rfl, by simp, ?_⟩)
        intro t i r hr
        obtain ⟨g1, g2, _⟩ := rest_next hr
        have g3 : bt t (i + 1) = 116 := g2
        unfold escN
        rw [if_neg (by omega), if_neg (by omega), if_neg (by omega), if_pos g3]; rfl
      · split
        · exact tokV_plain _ (encB_plain c (by omega) (by omega) h3)
        · rename_i hs
          split
          · rename_i h256
            refine tokV_one (.inr ⟨120 :: smallL c 2, c, rfl, rfl, by simp, ?_⟩)
            intro t i r hr
            obtain ⟨g1, g2, g4⟩ := rest_next hr
            have g3 : bt t (i + 1) = 120 := g2
            have g5 := num2 g4 h256
            unfold escN
            rw [if_neg (by omega), if_neg (by omega), if_neg (by omega), if_neg (by omega), if_pos g3, g5, if_neg (by omega)]; simp [smallL_len]
          · rename_i h256
            have h64 : c < 65536 := by
              unfold signB at hs
              simp at hs; omega
            refine tokV_one (.inr ⟨117 :: smallL c 4, c, rfl, rfl, by simp, ?_⟩)
            intro t i r hr
            obtain ⟨g1, g2, g4⟩ := rest_next hr
            have g3 : bt t (i + 1) = 117 := g2
            have g5 := num4 g4 h64
            unfold escN
            rw [if_neg (by omega), if_neg (by omega), if_neg (by omega), if_neg (by omega), if_neg (by omega), if_pos g3, g5, if_neg (by omega)]; simp [smallL_len]

/-- UTF-8 from a place on. -/
def vldF (s : ByteArray) : Nat → Nat → Bool
  | 0, _ => true
  | f + 1, i => if i < s.size then decide ((chr s i).2 ≠ 0) && vldF s f (i + (chr s i).2) else true
theorem wdF_tokV (s : ByteArray) (f : Nat) : ∀ i, vldF s f i = true → s.size ≤ i + f → i ≤ s.size → ∃ ps : List (List UInt8 × List UInt8), wdF s f i = (ps.map Prod.fst).flatten ∧ rest8 s i = (ps.map Prod.snd).flatten ∧ ∀ p ∈ ps, tokV p.1 p.2 := by
  induction f with
  | zero =>
    intro i _ h1 h2
    refine ⟨[], rfl, ?_, by simp⟩
    have := rest8_len h2
    exact List.eq_nil_of_length_eq_zero (by omega)
  | succ f ih =>
    intro i hv h1 h2
    rw [wdF]
    split
    · rename_i hlt
      rw [vldF, if_pos hlt] at hv
      simp only [Bool.and_eq_true, decide_eq_true_eq] at hv
      have hd : dcN s i = chr s i := by unfold dcN; rw [if_neg hv.1]
      obtain ⟨g1, g2, g3, g4⟩ := chr_enc hlt (c := (chr s i).1) (m := (chr s i).2) rfl hv.1
      obtain ⟨ts, e1, e2, e3⟩ := escW_tokV (chr s i).1 g3 g4
      obtain ⟨us, e4, e5, e6⟩ := ih (i + (chr s i).2) hv.2 (by omega) g2
      refine ⟨ts ++ us, by rw [hd, e1, e4]; simp, by rw [g1, e2, e5]; simp, ?_⟩
      intro p hp
      rcases List.mem_append.mp hp with h | h
      · exact e3 p h
      · exact e6 p h
    · refine ⟨[], rfl, ?_, by simp⟩
      have := rest8_len h2
      exact List.eq_nil_of_length_eq_zero (by omega)
end Go.Proofs.YtoobbmehjpninaaGreatDoor
