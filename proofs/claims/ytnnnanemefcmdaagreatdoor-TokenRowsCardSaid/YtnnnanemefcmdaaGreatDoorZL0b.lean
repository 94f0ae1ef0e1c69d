/- Reading what was written between double marks; plain: no walk. -/
import Derived.Test.YtnnnanemefcmdaaGreatDoorZL0a
import Derived.Test.YtnnnanemefcmdaaGreatDoorRows
import Derived.WalkKit
import Derived.WalkSpells
import Derived.WalkLawsBesides
import Derived.Deep.QuietTactic
import Derived.BigQuiet
import Derived.Lib.Strings
import Derived.Test.YtnnnanemefcmdaaGreatDoorShelf
import Derived.Lib.Hide
namespace Go.Proofs.YtnnnanemefcmdaaGreatDoor
open Go.RowKit

theorem rest8_at {t : ByteArray} {i : Nat} (h : i < t.size) : rest8 t i = UInt8.ofNat (bt t i) :: rest8 t (i + 1) := by
  unfold rest8
  rw [List.drop_eq_getElem_cons (by simpa using h)]
  congr 1
  have h3 : (t[i]).toNat = bt t i := bt_get t i h
  apply UInt8.toNat_inj.mp
  have : bt t i < 256 := bt_lt t i
  rw [← h3]
  simp; rfl
theorem ofn {a b : Nat} (h : a = b) : UInt8.ofNat a = UInt8.ofNat b := by rw [h]

/-- A character's bytes are those that stand there. -/
theorem chr_enc {s : ByteArray} {i c m : Nat} (h : i < s.size) (hc : chr s i = (c, m)) (hm : m ≠ 0) :
    rest8 s i = encB c ++ rest8 s (i + m) ∧ i + m ≤ s.size ∧ c ≤ 1114111 ∧ ¬ (55296 ≤ c ∧ c ≤ 57343) := by
  have b0 := bt_lt s i
  have b1 := bt_lt s (i + 1)
  have b2 := bt_lt s (i + 2)
  have b3 := bt_lt s (i + 3)
  by_cases h1 : bt s i < 128
  · rw [chr_a h1] at hc
    cases hc
    refine ⟨?_, by omega, by omega, by omega⟩
    rw [rest8_at h, encB, if_pos h1]; rfl
  by_cases h2 : bt s i < 194
  · rw [chr_b (by omega) h2] at hc; cases hc; exact absurd rfl hm
  by_cases h3 : bt s i < 224
  · by_cases hx : s.size ≤ i + 1 ∨ bt s (i + 1) < 128 ∨ 192 ≤ bt s (i + 1)
    · rw [chr_c_no (by omega) h3 hx] at hc; cases hc; exact absurd rfl hm
    · obtain ⟨d, hd⟩ : ∃ d, (bt s i - 192) * 64 + (bt s (i + 1) - 128) = d := ⟨_, rfl⟩
      rw [chr_c (by omega) h3 (by omega) (by omega) (by omega), hd] at hc
      cases hc
      refine ⟨?_, by omega, by omega, by omega⟩
      rw [rest8_at h, rest8_at (i := i + 1) (by omega), encB, if_neg (by omega), if_pos (by omega)]
      have e0 : bt s i = 192 + c / 64 := by omega
      have e1 : bt s (i + 1) = 128 + c % 64 := by omega
      rw [ofn e0, ofn e1]; rfl
  by_cases h4 : bt s i < 240
  · by_cases hx : s.size ≤ i + 2 ∨ bt s (i + 1) < 128 ∨ 192 ≤ bt s (i + 1) ∨ bt s (i + 2) < 128 ∨ 192 ≤ bt s (i + 2)
    · rw [chr_d_no (by omega) h4 hx] at hc; cases hc; exact absurd rfl hm
    · obtain ⟨d, hd⟩ : ∃ d, d + 224 * 4096 + 128 * 64 + 128 = bt s i * 4096 + bt s (i + 1) * 64 + bt s (i + 2) := ⟨bt s i * 4096 + bt s (i + 1) * 64 + bt s (i + 2) - (224 * 4096 + 128 * 64 + 128), by omega⟩
      rw [chr_d (by omega) h4 (by omega) (by omega) (by omega) (by omega) (by omega) d hd] at hc
      split at hc
      · rename_i hk
        cases hc
        refine ⟨?_, by omega, by omega, by omega⟩
        rw [rest8_at h, rest8_at (i := i + 1) (by omega), rest8_at (i := i + 2) (by omega), encB, if_neg (by omega), if_neg (by omega), if_pos (by omega)]
        have e0 : bt s i = 224 + c / 4096 := by omega
        have e1 : bt s (i + 1) = 128 + c / 64 % 64 := by omega
        have e2 : bt s (i + 2) = 128 + c % 64 := by omega
        rw [ofn e0, ofn e1, ofn e2]; rfl
      · cases hc; exact absurd rfl hm
  by_cases h5 : bt s i < 245
  · by_cases hx : s.size ≤ i + 3 ∨ bt s (i + 1) < 128 ∨ 192 ≤ bt s (i + 1) ∨ bt s (i + 2) < 128 ∨ 192 ≤ bt s (i + 2) ∨ bt s (i + 3) < 128 ∨ 192 ≤ bt s (i + 3)
    · rw [chr_e_no (by omega) h5 hx] at hc; cases hc; exact absurd rfl hm
    · obtain ⟨d, hd⟩ : ∃ d, d + 240 * 262144 + 128 * 4096 + 128 * 64 + 128 = bt s i * 262144 + bt s (i + 1) * 4096 + bt s (i + 2) * 64 + bt s (i + 3) := ⟨bt s i * 262144 + bt s (i + 1) * 4096 + bt s (i + 2) * 64 + bt s (i + 3) - (240 * 262144 + 128 * 4096 + 128 * 64 + 128), by omega⟩
      rw [chr_e (by omega) h5 (by omega) (by omega) (by omega) (by omega) (by omega) (by omega) (by omega) d hd] at hc
      split at hc
      · rename_i hk
        cases hc
        refine ⟨?_, by omega, by omega, by omega⟩
        rw [rest8_at h, rest8_at (i := i + 1) (by omega), rest8_at (i := i + 2) (by omega), rest8_at (i := i + 3) (by omega), encB, if_neg (by omega), if_neg (by omega), if_neg (by omega)]
        have e0 : bt s i = 240 + c / 262144 := by omega
        have e1 : bt s (i + 1) = 128 + c / 4096 % 64 := by omega
        have e2 : bt s (i + 2) = 128 + c / 64 % 64 := by omega
        have e3 : bt s (i + 3) = 128 + c % 64 := by omega
        rw [ofn e0, ofn e1, ofn e2, ofn e3]; rfl
      · cases hc; exact absurd rfl hm
  rw [chr_f (by omega)] at hc; cases hc; exact absurd rfl hm

/-- A token and what it says. -/
def tokV (p v : List UInt8) : Prop :=
  (∃ b : UInt8, p = [b] ∧ v = [b] ∧ b.toNat ≠ 34 ∧ b.toNat ≠ 92) ∨
  (∃ (u : List UInt8) (c : Nat), p = 92 :: u ∧ v = encB c ∧ 1 ≤ u.length ∧ ∀ (t : ByteArray) (i : Nat) (r : List UInt8), rest8 t i = 92 :: u ++ r → escN t i = ((c : Int), ((u.length + 1 : Nat) : Int)))
theorem DOut.pre_done (o l : List UInt8) (n : Nat) : (DOut.done l n).pre o = .done (o ++ l) n := rfl

theorem rdD_back (ps : List (List UInt8 × List UInt8)) : (∀ p ∈ ps, tokV p.1 p.2) → ∀ (t : ByteArray) (i f : Nat) (r : List UInt8),
    rest8 t i = (ps.map Prod.fst).flatten ++ 34 :: r → (ps.map Prod.fst).flatten.length < f →
    rdD t f i = .done (ps.map Prod.snd).flatten (i + (ps.map Prod.fst).flatten.length + 1) := by
  induction ps with
  | nil =>
    intro _ t i f r h hf
    obtain ⟨f, rfl⟩ : ∃ g, f = g + 1 := ⟨f - 1, by omega⟩
    simp only [List.map_nil, List.flatten_nil, List.nil_append] at h
    obtain ⟨hi, _, hb, _⟩ := rest8_cons h
    rw [rdD_stop hi hb]; simp
  | cons p ps ih =>
    intro hts t i f r h hf
    have ih := ih (fun p hp => hts p (List.mem_cons_of_mem _ hp))
    obtain ⟨f, rfl⟩ : ∃ g, f = g + 1 := ⟨f - 1, by omega⟩
    obtain ⟨p, v⟩ := p
    simp only [List.map_cons, List.flatten_cons, List.append_assoc, List.length_append] at h hf ⊢
    rcases hts (p, v) (List.mem_cons_self ..) with ⟨b, hp, hv, hb1, hb2⟩ | ⟨u, c, hp, hv, hu, hesc⟩
    · simp only at hp hv
      subst hp hv
      simp only [List.cons_append, List.nil_append, List.length_singleton] at h hf ⊢
      obtain ⟨hi, he, hb, h2⟩ := rest8_cons h
      rw [rdD_one hi (by omega) (by omega), ih t (i + 1) f r h2 (by omega), he, DOut.pre_done]
      simp only [List.cons_append, List.nil_append]
      congr 1; omega
    · simp only at hp hv
      subst hp hv
      have h2 := hesc t i _ h
      simp only [List.cons_append] at h
      obtain ⟨hi, he, hb, h3⟩ := rest8_cons h
      simp only [List.length_cons] at hf ⊢
      have e2 : (escN t i).2 = ((u.length + 1 : Nat) : Int) := by rw [h2]
      have e1 : (escN t i).1.toNat = c := by rw [h2]; simp
      rw [rdD_esc hi hb (by rw [e2]; omega), e1, show (escN t i).2.toNat = u.length + 1 by rw [e2]; simp]
      rw [ih t (i + (u.length + 1)) f r (by rw [← Nat.add_assoc, Nat.add_right_comm, rest8_add (t := t) (i := i + 1), h3]; simp) (by omega), DOut.pre_done]
      congr 1; omega

theorem hexN_dig {d : Nat} (h : d < 16) : hexN (dig d).toNat = d := by
  have := dig_val d h
  unfold hexN
  split at this
  · rw [if_neg (by omega), if_pos (by omega)]; omega
  · rw [if_pos (by omega)]; omega
theorem num2 {t : ByteArray} {i v : Nat} {r : List UInt8} (h : rest8 t i = smallL v 2 ++ r) (hv : v < 256) : numR t i 2 = v := by
  simp only [smallL, List.cons_append, List.nil_append] at h
  obtain ⟨h0, _, b0, h⟩ := rest8_cons h
  obtain ⟨h1, _, b1, h⟩ := rest8_cons h
  have d0 := hexN_dig (d := v / 16 ^ 1 % 16) (by omega)
  have d1 := hexN_dig (d := v / 16 ^ 0 % 16) (by omega)
  rw [← b0] at d0
  rw [← b1] at d1
  have e : numO t i 2 = some v := by
    simp only [numO, Nat.add_zero, d0, d1]
    rw [if_neg (by omega)]
    simp only
    rw [if_neg (by omega)]
    congr 1
    simp; omega
  unfold numR
  rw [if_neg (by omega), e]
theorem num4 {t : ByteArray} {i v : Nat} {r : List UInt8} (h : rest8 t i = smallL v 4 ++ r) (hv : v < 65536) : numR t i 4 = v := by
  simp only [smallL, List.cons_append, List.nil_append] at h
  obtain ⟨h0, _, b0, h⟩ := rest8_cons h
  obtain ⟨h1, _, b1, h⟩ := rest8_cons h
  obtain ⟨h2, _, b2, h⟩ := rest8_cons h
  obtain ⟨h3, _, b3, h⟩ := rest8_cons h
  have d0 := hexN_dig (d := v / 16 ^ 3 % 16) (by omega)
  have d1 := hexN_dig (d := v / 16 ^ 2 % 16) (by omega)
  have d2 := hexN_dig (d := v / 16 ^ 1 % 16) (by omega)
  have d3 := hexN_dig (d := v / 16 ^ 0 % 16) (by omega)
  rw [← b0] at d0
  rw [← b1] at d1
  rw [← b2] at d2
  rw [← b3] at d3
  have e : numO t i 4 = some v := by
    simp only [numO, Nat.add_zero, d0, d1, d2, d3]
    rw [if_neg (by omega)]
    simp only
    rw [if_neg (by omega)]
    simp only
    rw [if_neg (by omega)]
    simp only
    rw [if_neg (by omega)]
    congr 1
    simp; omega
  unfold numR
  rw [if_neg (by omega), e]

theorem tokV_one {p v : List UInt8} (h : tokV p v) : ∃ ps : List (List UInt8 × List UInt8), p = (ps.map Prod.fst).flatten ∧ v = (ps.map Prod.snd).flatten ∧ ∀ p ∈ ps, tokV p.1 p.2 :=
  ⟨[(p, v)], by simp, by simp, fun q hq => by simp only [List.mem_singleton] at hq; subst hq; exact h⟩
theorem tokV_plain (l : List UInt8) (h : ∀ b ∈ l, b.toNat ≠ 34 ∧ b.toNat ≠ 92) : ∃ ps : List (List UInt8 × List UInt8), l = (ps.map Prod.fst).flatten ∧ l = (ps.map Prod.snd).flatten ∧ ∀ p ∈ ps, tokV p.1 p.2 := by
  have e : l = (l.map fun b => [b]).flatten := by
    clear h
    induction l with
    | nil => rfl
    | cons b l ih => simp [← ih]
  refine ⟨l.map fun b => ([b], [b]), ?_, ?_, ?_⟩
  · rw [List.map_map]; exact e
  · rw [List.map_map]; exact e
  · intro p hp
    obtain ⟨b, hb, rfl⟩ := List.mem_map.mp hp
    exact .inl ⟨b, rfl, rfl, h b hb⟩
theorem rest_next {t : ByteArray} {i : Nat} {b c : UInt8} {r : List UInt8} (h : rest8 t i = b :: c :: r) : i + 1 < t.size ∧ bt t (i + 1) = c.toNat ∧ rest8 t (i + 2) = r := by
  obtain ⟨_, _, _, h⟩ := rest8_cons h
  obtain ⟨h1, _, h2, h3⟩ := rest8_cons h
  exact ⟨h1, h2, h3⟩
theorem escW_tokV (c : Nat) (h3 : c ≤ 1114111) (h4 : ¬ (55296 ≤ c ∧ c ≤ 57343)) :
    ∃ ps : List (List UInt8 × List UInt8), escW c = (ps.map Prod.fst).flatten ∧ encB c = (ps.map Prod.snd).flatten ∧ ∀ p ∈ ps, tokV p.1 p.2 := by
  unfold escW
  split
  · rename_i h
    refine tokV_one (.inr ⟨[UInt8.ofNat c], c, rfl, rfl, by simp, ?_⟩)
    intro t i r hr
    obtain ⟨g1, g2, _⟩ := rest_next hr
    have g3 : bt t (i + 1) = c := by rw [g2]; simp; omega
    unfold escN
    rw [if_neg (by omega), if_pos (by omega), g3]; rfl
  · rename_i hn
    split
    · rename_i h
      subst h
      refine tokV_one (.inr ⟨[110], 10, rfl, rfl, by simp, ?_⟩)
      intro t i r hr
      obtain ⟨g1, g2, _⟩ := rest_next hr
      have g3 : bt t (i + 1) = 110 := g2
      unfold escN
      rw [if_neg (by omega), if_neg (by omega), if_pos g3]; rfl
    · split
      · rename_i h
        subst h
        refine tokV_one (.inr ⟨[116], 9, rfl, rfl, by simp, ?_⟩)
        intro t i r hr
        obtain ⟨g1, g2, _⟩ := rest_next hr
        have g3 : bt t (i + 1) = 116 := g2
        unfold escN
        rw [if_neg (by omega), if_neg (by omega), if_neg (by omega), if_pos g3]; rfl
      · split
        · exact tokV_plain _ (encB_plain c (by omega) (by omega) h3)
        · rename_i hs
          split
          · rename_i h256
            refine tokV_one (.inr ⟨120 :: smallL c 2, c, rfl, rfl, by simp, ?_⟩)
            intro t i r hr
            obtain ⟨g1, g2, g4⟩ := rest_next hr
            have g3 : bt t (i + 1) = 120 := g2
            have g5 := num2 g4 h256
            unfold escN
            rw [if_neg (by omega), if_neg (by omega), if_neg (by omega), if_neg (by omega), if_pos g3, g5, if_neg (by omega)]; simp [smallL_len]
          · rename_i h256
            have h64 : c < 65536 := by
              unfold signB at hs
              simp at hs; omega
            refine tokV_one (.inr ⟨117 :: smallL c 4, c, rfl, rfl, by simp, ?_⟩)
            intro t i r hr
            obtain ⟨g1, g2, g4⟩ := rest_next hr
            have g3 : bt t (i + 1) = 117 := g2
            have g5 := num4 g4 h64
            unfold escN
            rw [if_neg (by omega), if_neg (by omega), if_neg (by omega), if_neg (by omega), if_neg (by omega), if_pos g3, g5, if_neg (by omega)]; simp [smallL_len]

/-- UTF-8 from a place on. -/
def vldF (s : ByteArray) : Nat → Nat → Bool
  | 0, _ => true
  | f + 1, i => if i < s.size then decide ((chr s i).2 ≠ 0) && vldF s f (i + (chr s i).2) else true
theorem wdF_tokV (s : ByteArray) (f : Nat) : ∀ i, vldF s f i = true → s.size ≤ i + f → i ≤ s.size → ∃ ps : List (List UInt8 × List UInt8), wdF s f i = (ps.map Prod.fst).flatten ∧ rest8 s i = (ps.map Prod.snd).flatten ∧ ∀ p ∈ ps, tokV p.1 p.2 := by
  induction f with
  | zero =>
    intro i _ h1 h2
    refine ⟨[], rfl, ?_, by simp⟩
    have := rest8_len h2
    exact List.eq_nil_of_length_eq_zero (by omega)
  | succ f ih =>
    intro i hv h1 h2
    rw [wdF]
    split
    · rename_i hlt
      rw [vldF, if_pos hlt] at hv
      simp only [Bool.and_eq_true, decide_eq_true_eq] at hv
      have hd : dcN s i = chr s i := by unfold dcN; rw [if_neg hv.1]
      obtain ⟨g1, g2, g3, g4⟩ := chr_enc hlt (c := (chr s i).1) (m := (chr s i).2) rfl hv.1
      obtain ⟨ts, e1, e2, e3⟩ := escW_tokV (chr s i).1 g3 g4
      obtain ⟨us, e4, e5, e6⟩ := ih (i + (chr s i).2) hv.2 (by omega) g2
      refine ⟨ts ++ us, by rw [hd, e1, e4]; simp, by rw [g1, e2, e5]; simp, ?_⟩
      intro p hp
      rcases List.mem_append.mp hp with h | h
      · exact e3 p h
      · exact e6 p h
    · refine ⟨[], rfl, ?_, by simp⟩
      have := rest8_len h2
      exact List.eq_nil_of_length_eq_zero (by omega)
end Go.Proofs.YtnnnanemefcmdaaGreatDoor
namespace Go.Proofs.YtnnnanemefcmdaaGreatDoor
open Go.RowKit

theorem vldF_end (s : ByteArray) (f i : Nat) (h : s.size ≤ i) : vldF s f i = true := by
  cases f with
  | zero => rfl
  | succ f => rw [vldF, if_neg (by omega)]
theorem vldF_bad {s : ByteArray} {f i : Nat} (h : i < s.size) (hm : (chr s i).2 = 0) : vldF s (f + 1) i = false := by rw [vldF, if_pos h]; simp [hm]
theorem vldF_good {s : ByteArray} {f i : Nat} (h : i < s.size) (hm : (chr s i).2 ≠ 0) : vldF s (f + 1) i = vldF s f (i + (chr s i).2) := by rw [vldF, if_pos h]; simp [hm]

/-- Is what stands from a place on shown? -/
def shqF (s : ByteArray) : Nat → Nat → Bool
  | 0, _ => true
  | f + 1, i => if i < s.size then (decide ((chr s i).2 ≠ 0) && (!decide ((chr s i).1 = 10) && signB (chr s i).1)) && shqF s f (i + (chr s i).2) else true
theorem shqF_end (s : ByteArray) (f i : Nat) (h : s.size ≤ i) : shqF s f i = true := by
  cases f with
  | zero => rfl
  | succ f => rw [shqF, if_neg (by omega)]
theorem shqF_bad {s : ByteArray} {f i : Nat} (h : i < s.size) (hm : (chr s i).2 = 0 ∨ (chr s i).1 = 10 ∨ signB (chr s i).1 = false) : shqF s (f + 1) i = false := by
  rw [shqF, if_pos h]
  rcases hm with h | h | h <;> simp [h]
theorem shqF_good {s : ByteArray} {f i : Nat} (h : i < s.size) (hm : (chr s i).2 ≠ 0) (h10 : (chr s i).1 ≠ 10) (hs : signB (chr s i).1 = true) : shqF s (f + 1) i = shqF s f (i + (chr s i).2) := by
  rw [shqF, if_pos h]; simp [hm, h10, hs]
theorem retQ {a b : Bool} (h : a = b) : Ending.returned (.bool a) = .returned (.bool b) := by rw [h]

end Go.Proofs.YtnnnanemefcmdaaGreatDoor
namespace Go.Proofs.YtnnnanemefcmdaaGreatDoor
open Go.RowKit

theorem u8n {n : Nat} (h : n < 256) : (UInt8.ofNat n).toNat = n := by simp; omega
/-- A character's bytes, read, are the character. -/
theorem chr_dec {t : ByteArray} {i c : Nat} {r : List UInt8} (h : rest8 t i = encB c ++ r) (h1 : c ≤ 1114111) (h2 : ¬ (55296 ≤ c ∧ c ≤ 57343)) :
    chr t i = (c, (encB c).length) := by
  unfold encB at h ⊢
  by_cases k1 : c < 128
  · rw [if_pos k1] at h ⊢
    obtain ⟨_, _, b0, _⟩ := rest8_cons h
    rw [u8n (by omega)] at b0
    rw [chr_a (by omega), b0]; rfl
  rw [if_neg k1] at h ⊢
  by_cases k2 : c < 2048
  · rw [if_pos k2] at h ⊢
    obtain ⟨_, _, b0, h⟩ := rest8_cons h
    obtain ⟨_, _, b1, h⟩ := rest8_cons h
    rw [u8n (by omega)] at b0 b1
    rw [chr_c (by omega) (by omega) (by omega) (by omega) (by omega)]
    simp; omega
  rw [if_neg k2] at h ⊢
  by_cases k3 : c < 65536
  · rw [if_pos k3] at h ⊢
    obtain ⟨_, _, b0, h⟩ := rest8_cons h
    obtain ⟨_, _, b1, h⟩ := rest8_cons h
    obtain ⟨_, _, b2, h⟩ := rest8_cons h
    rw [u8n (by omega)] at b0 b1 b2
    replace b2 : bt t (i + 2) = 128 + c % 64 := b2
    rw [chr_d (c := c) (by omega) (by omega) (by omega) (by omega) (by omega) (by omega) (by omega) (by omega), if_pos (by omega)]; rfl
  rw [if_neg k3] at h ⊢
  obtain ⟨_, _, b0, h⟩ := rest8_cons h
  obtain ⟨_, _, b1, h⟩ := rest8_cons h
  obtain ⟨_, _, b2, h⟩ := rest8_cons h
  obtain ⟨_, _, b3, h⟩ := rest8_cons h
  rw [u8n (by omega)] at b0 b1 b2 b3
  replace b2 : bt t (i + 2) = 128 + c / 64 % 64 := b2
  replace b3 : bt t (i + 3) = 128 + c % 64 := b3
  rw [chr_e (c := c) (by omega) (by omega) (by omega) (by omega) (by omega) (by omega) (by omega) (by omega) (by omega) (by omega), if_pos (by omega)]; rfl

/-- A character that is shown. -/
def shC (c : Nat) : Prop := signB c = true ∧ c ≠ 10
theorem shC_range {c : Nat} (h : shC c) : c ≤ 1114111 ∧ ¬ (55296 ≤ c ∧ c ≤ 57343) := by
  have := h.1
  unfold signB at this
  simp at this; omega
theorem shC_asc {c : Nat} (h : 32 ≤ c) (h' : c ≤ 126) : shC c := ⟨signB_true (by omega), by omega⟩
theorem shqF_all (cs : List Nat) : (∀ c ∈ cs, shC c) → ∀ (t : ByteArray) (i f : Nat), rest8 t i = cs.flatMap encB → shqF t f i = true := by
  induction cs with
  | nil =>
    intro _ t i f h
    exact shqF_end t f i (rest8_nil h)
  | cons c cs ih =>
    intro hc t i f h
    have h0 := hc c (List.mem_cons_self ..)
    have h1 := shC_range h0
    rw [List.flatMap_cons] at h
    have hd := chr_dec h h1.1 h1.2
    have hl := encB_len c
    cases f with
    | zero => rfl
    | succ f =>
      by_cases hi : i < t.size
      · rw [shqF_good hi (by rw [hd]; simp only; omega) (by rw [hd]; exact h0.2) (by rw [hd]; exact h0.1), hd]
        exact ih (fun c h => hc c (List.mem_cons_of_mem _ h)) t _ f (by rw [rest8_add, h]; simp)
      · exact shqF_end t _ i (by omega)

theorem enc_asc {c : Nat} (h : c < 128) : encB c = [UInt8.ofNat c] := by unfold encB; rw [if_pos h]
theorem dig_enc {d : Nat} (h : d < 16) : ∃ c, [dig d] = encB c ∧ 32 ≤ c ∧ c ≤ 126 := by
  unfold dig
  by_cases h9 : 9 < d
  · rw [if_pos h9]; exact ⟨87 + d, (enc_asc (by omega)).symm, by omega, by omega⟩
  · rw [if_neg h9]; exact ⟨48 + d, (enc_asc (by omega)).symm, by omega, by omega⟩
/-- A text of characters that are shown. -/
def ofC (l : List UInt8) : Prop := ∃ cs : List Nat, l = cs.flatMap encB ∧ ∀ c ∈ cs, shC c
theorem ofC_nil : ofC [] := ⟨[], rfl, by simp⟩
theorem ofC_one {c : Nat} (h : shC c) : ofC (encB c) := ⟨[c], by simp, fun d hd => by simp only [List.mem_singleton] at hd; subst hd; exact h⟩
theorem ofC_app {l k : List UInt8} (h : ofC l) (h' : ofC k) : ofC (l ++ k) := by
  obtain ⟨cs, rfl, h1⟩ := h
  obtain ⟨ds, rfl, h2⟩ := h'
  refine ⟨cs ++ ds, by simp, ?_⟩
  intro c hc
  rcases List.mem_append.mp hc with h | h
  · exact h1 c h
  · exact h2 c h
theorem ofC_asc (c : Nat) {l : List UInt8} (h : 32 ≤ c) (h' : c ≤ 126) (hl : ofC l) : ofC (UInt8.ofNat c :: l) := by
  have := ofC_app (ofC_one (shC_asc h h')) hl
  rw [enc_asc (by omega)] at this
  exact this
theorem ofC_small (v n : Nat) : ofC (smallL v n) := by
  induction n with
  | zero => exact ofC_nil
  | succ n ih =>
    obtain ⟨c, h, h1, h2⟩ := dig_enc (d := v / 16 ^ n % 16) (Nat.mod_lt _ (by decide))
    have h3 := ofC_app (ofC_one (shC_asc h1 h2)) ih
    rw [← h] at h3
    exact h3
theorem ofC_esc (c : Nat) (h3 : c ≤ 1114111) : ofC (escW c) := by
  unfold escW
  split
  · exact ofC_asc 92 (by omega) (by omega) (ofC_asc c (by omega) (by omega) ofC_nil)
  · split
    · exact ofC_asc 92 (by omega) (by omega) (ofC_asc 110 (by omega) (by omega) ofC_nil)
    · rename_i h10
      split
      · exact ofC_asc 92 (by omega) (by omega) (ofC_asc 116 (by omega) (by omega) ofC_nil)
      · split
        · rename_i hs
          exact ofC_one ⟨hs, h10⟩
        · split
          · exact ofC_asc 92 (by omega) (by omega) (ofC_asc 120 (by omega) (by omega) (ofC_small c 2))
          · exact ofC_asc 92 (by omega) (by omega) (ofC_asc 117 (by omega) (by omega) (ofC_small c 4))
theorem ofC_wdF (s : ByteArray) (f : Nat) : ∀ i, ofC (wdF s f i) := by
  induction f with
  | zero => exact fun _ => ofC_nil
  | succ f ih =>
    intro i
    rw [wdF]
    split
    · exact ofC_app (ofC_esc _ (dcN_le s i)) (ih _)
    · exact ofC_nil
theorem rest8_zero (l : List UInt8) : rest8 ⟨l.toArray⟩ 0 = l := by simp [rest8]
/-- Double-quoted, a text is shown whole. -/
theorem wdL_shown (s : ByteArray) (f : Nat) : shqF ⟨(wdL s).toArray⟩ f 0 = true := by
  obtain ⟨cs, h, hc⟩ : ofC (wdL s) := by
    unfold wdL
    exact ofC_app (ofC_asc 34 (by omega) (by omega) (ofC_wdF s s.size 0)) (ofC_asc 34 (by omega) (by omega) ofC_nil)
  exact shqF_all cs hc _ 0 f (by rw [rest8_zero]; exact h)
end Go.Proofs.YtnnnanemefcmdaaGreatDoor
namespace Go.Proofs.YtnnnanemefcmdaaGreatDoor
open Go.RowKit

set_option maxRecDepth 100000 in
set_option maxHeartbeats 1000000 in
theorem sign_0 (c : Nat) (w : World) (_hc : c ≤ 2147483647) (h : c < 10) :
    Calls Tryz.prog 83 #[.int .i32 c] w fun e w' => e = .returned (.bool false) ∧ w = w' := by
  have k1 : ((c : Int) == 10) = false := by simp; omega
  have k2 : ((c : Int) != 65279) = true := by simp; omega
  have k3 : ((c : Int) == 65279) = false := by simp; omega
  go_enter Tryz.func83, Tryz.ntmps83
  go_wp2
  go_ret
  exact ⟨ret_bool (by simp <;> omega), rfl⟩
set_option maxRecDepth 100000 in
set_option maxHeartbeats 1000000 in
theorem sign_1 (c : Nat) (w : World) (_hc : c ≤ 2147483647) (h : 10 < c) (h' : c < 32) :
    Calls Tryz.prog 83 #[.int .i32 c] w fun e w' => e = .returned (.bool false) ∧ w = w' := by
  have k1 : ((c : Int) == 10) = false := by simp; omega
  have k2 : ((c : Int) != 65279) = true := by simp; omega
  have k3 : ((c : Int) == 65279) = false := by simp; omega
  go_enter Tryz.func83, Tryz.ntmps83
  go_wp2
  go_ret
  exact ⟨ret_bool (by simp <;> omega), rfl⟩
set_option maxRecDepth 100000 in
set_option maxHeartbeats 1000000 in
theorem sign_2 (c : Nat) (w : World) (_hc : c ≤ 2147483647) (h : 32 ≤ c) (h' : c ≤ 126) :
    Calls Tryz.prog 83 #[.int .i32 c] w fun e w' => e = .returned (.bool true) ∧ w = w' := by
  have k1 : ((c : Int) == 10) = false := by simp; omega
  have k2 : ((c : Int) != 65279) = true := by simp; omega
  have k3 : ((c : Int) == 65279) = false := by simp; omega
  go_enter Tryz.func83, Tryz.ntmps83
  go_wp2
  go_ret
  exact ⟨ret_bool (by simp <;> omega), rfl⟩
set_option maxRecDepth 100000 in
set_option maxHeartbeats 1000000 in
theorem sign_3 (c : Nat) (w : World) (_hc : c ≤ 2147483647) (h : 126 < c) (h' : c < 160) :
    Calls Tryz.prog 83 #[.int .i32 c] w fun e w' => e = .returned (.bool false) ∧ w = w' := by
  have k1 : ((c : Int) == 10) = false := by simp; omega
  have k2 : ((c : Int) != 65279) = true := by simp; omega
  have k3 : ((c : Int) == 65279) = false := by simp; omega
  go_enter Tryz.func83, Tryz.ntmps83
  go_wp2
  go_ret
  exact ⟨ret_bool (by simp <;> omega), rfl⟩
set_option maxRecDepth 100000 in
set_option maxHeartbeats 1000000 in
theorem sign_4 (c : Nat) (w : World) (_hc : c ≤ 2147483647) (h : 160 ≤ c) (h' : c ≤ 55295) :
    Calls Tryz.prog 83 #[.int .i32 c] w fun e w' => e = .returned (.bool true) ∧ w = w' := by
  have k1 : ((c : Int) == 10) = false := by simp; omega
  have k2 : ((c : Int) != 65279) = true := by simp; omega
  have k3 : ((c : Int) == 65279) = false := by simp; omega
  go_enter Tryz.func83, Tryz.ntmps83
  go_wp2
  go_ret
  exact ⟨ret_bool (by simp <;> omega), rfl⟩
set_option maxRecDepth 100000 in
set_option maxHeartbeats 1000000 in
theorem sign_5 (c : Nat) (w : World) (_hc : c ≤ 2147483647) (h : 55295 < c) (h' : c < 57344) :
    Calls Tryz.prog 83 #[.int .i32 c] w fun e w' => e = .returned (.bool false) ∧ w = w' := by
  have k1 : ((c : Int) == 10) = false := by simp; omega
  have k2 : ((c : Int) != 65279) = true := by simp; omega
  have k3 : ((c : Int) == 65279) = false := by simp; omega
  go_enter Tryz.func83, Tryz.ntmps83
  go_wp2
  go_ret
  exact ⟨ret_bool (by simp <;> omega), rfl⟩
set_option maxRecDepth 100000 in
set_option maxHeartbeats 1000000 in
theorem sign_6 (c : Nat) (w : World) (_hc : c ≤ 2147483647) (h : 57344 ≤ c) (h' : c < 65279) :
    Calls Tryz.prog 83 #[.int .i32 c] w fun e w' => e = .returned (.bool true) ∧ w = w' := by
  have k1 : ((c : Int) == 10) = false := by simp; omega
  have k2 : ((c : Int) != 65279) = true := by simp; omega
  have k3 : ((c : Int) == 65279) = false := by simp; omega
  go_enter Tryz.func83, Tryz.ntmps83
  go_wp2
  go_ret
  exact ⟨ret_bool (by simp <;> omega), rfl⟩
set_option maxRecDepth 100000 in
set_option maxHeartbeats 1000000 in
theorem sign_7 (c : Nat) (w : World) (_hc : c ≤ 2147483647) (h : 65279 < c) (h' : c ≤ 65533) :
    Calls Tryz.prog 83 #[.int .i32 c] w fun e w' => e = .returned (.bool true) ∧ w = w' := by
  have k1 : ((c : Int) == 10) = false := by simp; omega
  have k2 : ((c : Int) != 65279) = true := by simp; omega
  have k3 : ((c : Int) == 65279) = false := by simp; omega
  go_enter Tryz.func83, Tryz.ntmps83
  go_wp2
  go_ret
  exact ⟨ret_bool (by simp <;> omega), rfl⟩
set_option maxRecDepth 100000 in
set_option maxHeartbeats 1000000 in
theorem sign_8 (c : Nat) (w : World) (_hc : c ≤ 2147483647) (h : 65533 < c) (h' : c < 65536) :
    Calls Tryz.prog 83 #[.int .i32 c] w fun e w' => e = .returned (.bool false) ∧ w = w' := by
  have k1 : ((c : Int) == 10) = false := by simp; omega
  have k2 : ((c : Int) != 65279) = true := by simp; omega
  have k3 : ((c : Int) == 65279) = false := by simp; omega
  go_enter Tryz.func83, Tryz.ntmps83
  go_wp2
  go_ret
  exact ⟨ret_bool (by simp <;> omega), rfl⟩
set_option maxRecDepth 100000 in
set_option maxHeartbeats 1000000 in
theorem sign_9 (c : Nat) (w : World) (_hc : c ≤ 2147483647) (h : 65536 ≤ c) (h' : c ≤ 1114111) :
    Calls Tryz.prog 83 #[.int .i32 c] w fun e w' => e = .returned (.bool true) ∧ w = w' := by
  have k1 : ((c : Int) == 10) = false := by simp; omega
  have k2 : ((c : Int) != 65279) = true := by simp; omega
  have k3 : ((c : Int) == 65279) = false := by simp; omega
  go_enter Tryz.func83, Tryz.ntmps83
  go_wp2
  go_ret
  exact ⟨ret_bool (by simp <;> omega), rfl⟩
set_option maxRecDepth 100000 in
set_option maxHeartbeats 1000000 in
theorem sign_10 (c : Nat) (w : World) (_hc : c ≤ 2147483647) (h : 1114111 < c) :
    Calls Tryz.prog 83 #[.int .i32 c] w fun e w' => e = .returned (.bool false) ∧ w = w' := by
  have k1 : ((c : Int) == 10) = false := by simp; omega
  have k2 : ((c : Int) != 65279) = true := by simp; omega
  have k3 : ((c : Int) == 65279) = false := by simp; omega
  go_enter Tryz.func83, Tryz.ntmps83
  go_wp2
  go_ret
  exact ⟨ret_bool (by simp <;> omega), rfl⟩
set_option maxRecDepth 100000 in
theorem sign_c10 (w : World) :
    Calls Tryz.prog 83 #[.int .i32 10] w fun e w' => e = .returned (.bool true) ∧ w = w' := by
  go_enter Tryz.func83, Tryz.ntmps83
  go_wp2
  go_ret
  exact ⟨ret_bool (by simp <;> omega), rfl⟩
set_option maxRecDepth 100000 in
theorem sign_c65279 (w : World) :
    Calls Tryz.prog 83 #[.int .i32 65279] w fun e w' => e = .returned (.bool false) ∧ w = w' := by
  go_enter Tryz.func83, Tryz.ntmps83
  go_wp2
  go_ret
  exact ⟨ret_bool (by simp <;> omega), rfl⟩
theorem sign_any (c : Nat) (w : World) (hc : c ≤ 2147483647) :
    Calls Tryz.prog 83 #[.int .i32 c] w fun e w' => e = .returned (.bool (signB c)) ∧ w = w' := by
  rcases sign_cases c with h | rfl | ⟨h, h'⟩ | ⟨h, h'⟩ | ⟨h, h'⟩ | ⟨h, h'⟩ | ⟨h, h'⟩ | ⟨h, h'⟩ | rfl | ⟨h, h'⟩ | ⟨h, h'⟩ | ⟨h, h'⟩ | h
  · rw [signB_false (by omega)]; exact sign_0 c w hc h
  · rw [signB_true (by omega)]; exact sign_c10 w
  · rw [signB_false (by omega)]; exact sign_1 c w hc h h'
  · rw [signB_true (by omega)]; exact sign_2 c w hc h h'
  · rw [signB_false (by omega)]; exact sign_3 c w hc h h'
  · rw [signB_true (by omega)]; exact sign_4 c w hc h h'
  · rw [signB_false (by omega)]; exact sign_5 c w hc h h'
  · rw [signB_true (by omega)]; exact sign_6 c w hc h h'
  · rw [signB_false (by omega)]; exact sign_c65279 w
  · rw [signB_true (by omega)]; exact sign_7 c w hc h h'
  · rw [signB_false (by omega)]; exact sign_8 c w hc h h'
  · rw [signB_true (by omega)]; exact sign_9 c w hc h h'
  · rw [signB_false (by omega)]; exact sign_10 c w hc h

end Go.Proofs.YtnnnanemefcmdaaGreatDoor
namespace Go.Proofs.YtnnnanemefcmdaaGreatDoor

def goodAt (s : ByteArray) (i : Nat) : Bool := decide ((chr s i).2 ≠ 0) && signB (chr s i).1
/-- The first place from i on at which no sign begins. -/
def ckf (s : ByteArray) : Nat → Nat → Option Nat
  | 0, _ => none
  | f + 1, i => if i < s.size then (if goodAt s i then ckf s f (i + wd s i) else some i) else none
def ck (s : ByteArray) : Nat × Nat := if 65536 < s.size then (1, 65536) else match ckf s s.size 0 with | none => (0, 0) | some i => (2, i)
theorem ckf_end (s : ByteArray) (f i : Nat) (h : s.size ≤ i) : ckf s f i = none := by
  cases f with
  | zero => rfl
  | succ f => rw [ckf, if_neg (by omega)]
theorem ckf_good (s : ByteArray) (f i : Nat) (h : i < s.size) (hg : goodAt s i = true) : ckf s (f + 1) i = ckf s f (i + wd s i) := by rw [ckf, if_pos h, if_pos hg]
theorem ckf_bad (s : ByteArray) (f i : Nat) (h : i < s.size) (hg : goodAt s i = false) : ckf s (f + 1) i = some i := by rw [ckf, if_pos h, if_neg (by simp [hg])]
theorem ck_none (s : ByteArray) (h : s.size ≤ 65536) (hc : ckf s s.size 0 = none) : ck s = (0, 0) := by rw [ck, if_neg (by omega), hc]
theorem ck_some (s : ByteArray) (h : s.size ≤ 65536) (i : Nat) (hc : ckf s s.size 0 = some i) : ck s = (2, i) := by rw [ck, if_neg (by omega), hc]
theorem ck_long (s : ByteArray) (h : 65536 < s.size) : ck s = (1, 65536) := by rw [ck, if_pos h]

def rep (s : ByteArray) (i : Nat) : Bool := Lib.hasPrefix (s.data.toList.drop i) [239, 191, 189]
theorem getb (s : ByteArray) (j : Nat) (h : j < s.size) : (s.data.toList[j]?).map UInt8.toNat = some (bt s j) := by
  have e := bt_get s j h
  have h' : j < s.data.toList.length := by simpa using h
  rw [List.getElem?_eq_getElem h']
  simp [← e]; rfl
theorem rep_yes (s : ByteArray) (i : Nat) (hz : i + 2 < s.size) (h0 : bt s i = 239) (h1 : bt s (i + 1) = 191) (h2 : bt s (i + 2) = 189) : rep s i = true := by
  have a0 := getb s i (by omega); have a1 := getb s (i + 1) (by omega); have a2 := getb s (i + 2) hz
  have l : i + 2 < s.data.toList.length := by simpa using hz
  rw [h0] at a0; rw [h1] at a1; rw [h2] at a2
  simp only [Option.map_eq_some_iff] at a0 a1 a2
  obtain ⟨x0, q0, r0⟩ := a0; obtain ⟨x1, q1, r1⟩ := a1; obtain ⟨x2, q2, r2⟩ := a2
  have e : s.data.toList.drop i = x0 :: x1 :: x2 :: s.data.toList.drop (i + 3) := by
    rw [List.drop_eq_getElem_cons (by omega), List.drop_eq_getElem_cons (by omega), List.drop_eq_getElem_cons (by omega)]
    rw [List.getElem?_eq_getElem (by omega)] at q0 q1 q2
    rw [Option.some.inj q0, Option.some.inj q1, Option.some.inj q2]
  have t0 : x0 = 239 := UInt8.toNat_inj.1 r0
  have t1 : x1 = 191 := UInt8.toNat_inj.1 r1
  have t2 : x2 = 189 := UInt8.toNat_inj.1 r2
  rw [rep, e, t0, t1, t2]; rfl
theorem rep_bytes (s : ByteArray) (i : Nat) (h : rep s i = true) : i + 2 < s.size ∧ bt s i = 239 ∧ bt s (i + 1) = 191 ∧ bt s (i + 2) = 189 := by
  unfold rep Lib.hasPrefix at h
  obtain ⟨t, ht⟩ := List.isPrefixOf_iff_prefix.1 h
  have hl : i + 2 < s.data.toList.length := by
    have := congrArg List.length ht; simp at this; simp; omega
  have hz : i + 2 < s.size := by simpa using hl
  have g : ∀ k (hk : k < 3), (s.data.toList[i + k]?) = ([239, 191, 189] : List UInt8)[k]? := by
    intro k hk
    rw [← List.getElem?_drop, ← ht, List.getElem?_append_left (by simpa using hk)]
  have a0 := getb s i (by omega); have a1 := getb s (i + 1) (by omega); have a2 := getb s (i + 2) hz
  have g0 := g 0 (by omega); have g1 := g 1 (by omega); have g2 := g 2 (by omega)
  rw [show i = i + 0 from rfl, g0] at a0; rw [g1] at a1; rw [g2] at a2
  simp at a0 a1 a2
  omega
theorem dec_rep (s : ByteArray) (i : Nat) (_h : i < s.size) : (rep s i = true → (Utf8.decode s i) = (65533, 3)) ∧ ((Utf8.decode s i).1 = 65533 → Utf8.decode s i ≠ (65533, 1) → rep s i = true) := by
  constructor
  · intro h
    obtain ⟨hz, h0, h1, h2⟩ := rep_bytes s i h
    have := chr_d (s := s) (i := i) (by omega) (by omega) hz (by omega) (by omega) (by omega) (by omega) 65533 (by omega)
    simp at this
    unfold chr at this
    split at this
    · simp at this
    · exact this
  · intro h h'
    have g0 := bt_lt s i; have g1 := bt_lt s (i + 1); have g2 := bt_lt s (i + 2); have g3 := bt_lt s (i + 3)
    have hc : chr s i = Utf8.decode s i := by unfold chr; rw [if_neg h']
    rw [← hc] at h
    by_cases a1 : bt s i < 128
    · rw [chr_a a1] at h; simp at h; omega
    by_cases a2 : bt s i < 194
    · rw [chr_b (by omega) a2] at h; simp at h
    by_cases a3 : 245 ≤ bt s i
    · rw [chr_f a3] at h; simp at h
    by_cases a4 : bt s i < 224
    · by_cases b : s.size ≤ i + 1 ∨ bt s (i + 1) < 128 ∨ 192 ≤ bt s (i + 1)
      · rw [chr_c_no (by omega) a4 b] at h; simp at h
      · rw [chr_c (by omega) a4 (by omega) (by omega) (by omega)] at h; simp at h; omega
    by_cases a5 : bt s i < 240
    · by_cases b : s.size ≤ i + 2 ∨ bt s (i + 1) < 128 ∨ 192 ≤ bt s (i + 1) ∨ bt s (i + 2) < 128 ∨ 192 ≤ bt s (i + 2)
      · rw [chr_d_no (by omega) a5 b] at h; simp at h
      · obtain ⟨c, hcc⟩ : ∃ c, c + 224 * 4096 + 128 * 64 + 128 = bt s i * 4096 + bt s (i + 1) * 64 + bt s (i + 2) := ⟨bt s i * 4096 + bt s (i + 1) * 64 + bt s (i + 2) - (224 * 4096 + 128 * 64 + 128), by omega⟩
        rw [chr_d (by omega) a5 (by omega) (by omega) (by omega) (by omega) (by omega) c hcc] at h
        split at h
        · simp at h
          exact rep_yes s i (by omega) (by omega) (by omega) (by omega)
        · simp at h
    by_cases b : s.size ≤ i + 3 ∨ bt s (i + 1) < 128 ∨ 192 ≤ bt s (i + 1) ∨ bt s (i + 2) < 128 ∨ 192 ≤ bt s (i + 2) ∨ bt s (i + 3) < 128 ∨ 192 ≤ bt s (i + 3)
    · rw [chr_e_no (by omega) (by omega) b] at h; simp at h
    · obtain ⟨c, hcc⟩ : ∃ c, c + 240 * 262144 + 128 * 4096 + 128 * 64 + 128 = bt s i * 262144 + bt s (i + 1) * 4096 + bt s (i + 2) * 64 + bt s (i + 3) := ⟨bt s i * 262144 + bt s (i + 1) * 4096 + bt s (i + 2) * 64 + bt s (i + 3) - (240 * 262144 + 128 * 4096 + 128 * 64 + 128), by omega⟩
      rw [chr_e (by omega) (by omega) (by omega) (by omega) (by omega) (by omega) (by omega) (by omega) (by omega) c hcc] at h
      split at h
      · simp at h; omega
      · simp at h
theorem good_yes (s : ByteArray) (i : Nat) (h : i < s.size) (hs : signB (Utf8.decode s i).1 = true) (hr : (Utf8.decode s i).1 = 65533 → rep s i = true) : goodAt s i = true := by
  have hne : Utf8.decode s i ≠ (65533, 1) := by
    intro e
    have := (dec_rep s i h).1 (hr (by rw [e]))
    rw [e] at this; simp at this
  have hc : chr s i = Utf8.decode s i := by unfold chr; rw [if_neg hne]
  have hw := wd_pos s i
  unfold wd at hw
  unfold goodAt
  rw [hc, hs]; simp; omega
theorem good_no (s : ByteArray) (i : Nat) (h : i < s.size) (hb : signB (Utf8.decode s i).1 = false ∨ (Utf8.decode s i).1 = 65533 ∧ rep s i = false) : goodAt s i = false := by
  unfold goodAt
  by_cases e : Utf8.decode s i = (65533, 1)
  · simp [chr, e]
  · have hc : chr s i = Utf8.decode s i := by unfold chr; rw [if_neg e]
    rw [hc]
    rcases hb with hb | ⟨h1, h2⟩
    · simp [hb]
    · have := (dec_rep s i h).2 h1 e
      rw [h2] at this; cases this
end Go.Proofs.YtnnnanemefcmdaaGreatDoor
namespace Go.Proofs.YtnnnanemefcmdaaGreatDoor
open Go.RowKit

set_option maxHeartbeats 400000 in
theorem replacement_any (t : ByteArray) (w : World) :
    Calls Tryz.prog 84 #[.string t] w fun e w' => e = .returned (.bool (Lib.hasPrefix t.data.toList [239, 191, 189])) ∧ w = w' := by
  go_enter Tryz.func84, Tryz.ntmps84
  go_wp2_with fail
  refine (Tryz.strings_HasPrefix t _ _).mono ?_
  rintro e w' ⟨rfl, rfl⟩
  go_wp2
  go_ret
  exact ⟨rfl, rfl⟩

theorem chk_cell0 (w : World) (s : ByteArray) (p : Nat) : ((w.alloc (.cells #[.int .i64 0, .int .i64 0] 27)).iter s p).cell? ⟨w.heap.size, 0, none⟩ = some (.int .i64 0) := by unfold World.iter; simp
theorem chk_free0 (w : World) (s : ByteArray) (p : Nat) : ((w.alloc (.cells #[.int .i64 0, .int .i64 0] 27)).iter s p).frozen? ⟨w.heap.size, 0, none⟩ = false := by unfold World.iter; simp
theorem chk_cell1 (w : World) (s : ByteArray) (p : Nat) : ((w.alloc (.cells #[.int .i64 0, .int .i64 0] 27)).iter s p).cell? ⟨w.heap.size, 1, none⟩ = some (.int .i64 0) := by unfold World.iter; simp
theorem chk_free1 (w : World) (s : ByteArray) (p : Nat) : ((w.alloc (.cells #[.int .i64 0, .int .i64 0] 27)).iter s p).frozen? ⟨w.heap.size, 1, none⟩ = false := by unfold World.iter; simp
theorem chk_pos (w : World) (s : ByteArray) (p : Nat) : ((w.alloc (.cells #[.int .i64 0, .int .i64 0] 27)).iter s p).iterPos (w.heap.size + 1) = p := by
  have := World.iterPos_iter (w.alloc (.cells #[.int .i64 0, .int .i64 0] 27)) s p
  simpa using this
theorem below_chk (w : World) (o : Obj) (s : ByteArray) (i : Nat) (a b : Value) : Below w.heap.size w ((((w.alloc o).iter s i).setCell ⟨w.heap.size, 0, none⟩ a).setCell ⟨w.heap.size, 1, none⟩ b) :=
  ((((Below.refl _ _).alloc (Nat.le_refl _) _).alloc (by simp) _).setCell (by simp) _).setCell (by simp) _
theorem ret_agg2 {a b a' b' : Int} (h : a = a') (h' : b = b') : Ending.returned (.agg #[.int .i64 a, .int .i64 b]) = .returned (.agg #[.int .i64 a', .int .i64 b']) := by rw [h, h']

set_option maxRecDepth 100000 in
set_option maxHeartbeats 1000000 in
theorem check_long (s : ByteArray) (w : World) (h : 65536 < s.size) (hs : s.size ≤ maxLen) :
    Calls Tryz.prog 52 #[.string s] w fun e w' => e = .returned (.agg #[.int .i64 1, .int .i64 65536]) ∧ Below w.heap.size w w' := by
  unfold maxLen at hs
  go_enter Tryz.func52, Tryz.ntmps52
  go_wp2
  refine bodyPost_ret (v := .agg #[.int .i64 1, .int .i64 65536]) (by simp [results, Tryz.results52, go_sem]) rfl ⟨rfl, ?_⟩
  exact ((Below.refl _ _).alloc (Nat.le_refl _) _)

set_option maxRecDepth 100000 in
set_option maxHeartbeats 2000000 in
theorem check_short (s : ByteArray) (w : World) (h : s.size ≤ 65536) :
    Calls Tryz.prog 52 #[.string s] w fun e w' => e = .returned (.agg #[.int .i64 (ck s).1, .int .i64 (ck s).2]) ∧ Below w.heap.size w w' := by
  go_enter Tryz.func52, Tryz.ntmps52
  go_wp2
  go_loopw [] (fun wr => ∃ (i f : Nat), wr = (w.alloc (.cells #[.int .i64 0, .int .i64 0] 27)).iter s i ∧ Hid (ckf s f i = ckf s s.size 0) ∧ s.size ≤ i + f ∧ i ≤ s.size) (fun wr => s.size - wr.iterPos (w.heap.size + 1))
  case atStart => exact ⟨0, s.size, rfl, Lib.hid rfl, by omega, by omega⟩
  case round =>
    obtain ⟨i, f, rfl, hp, hf, hi⟩ := hrel
    by_cases hlt : i < s.size
    · have hnx : ∀ ty, (Instr.next (.pointer (some ⟨w.heap.size + 1, 0, none⟩)) true ty).run Tryz.prog ((w.alloc (.cells #[.int .i64 0, .int .i64 0] 27)).iter s i) = _ := fun ty => by
        have := run_next_any (P := Tryz.prog) (w.alloc (.cells #[.int .i64 0, .int .i64 0] 27)) s i ty hlt
        simpa using this
      cases hsg : signB (Utf8.decode s i).1 with
      | false =>
        have HS := Lib.hid hsg
        clear hsg
        have q0 := chk_cell0 w s (i + (Utf8.decode s i).2)
        have q1 := chk_cell1 w s (i + (Utf8.decode s i).2)
        have q2 := chk_free0 w s (i + (Utf8.decode s i).2)
        have q3 := chk_free1 w s (i + (Utf8.decode s i).2)
        go_wp2_with fail
        refine (sign_any _ _ (by have := dec_le s i; omega)).mono ?_
        rintro e w' ⟨rfl, rfl⟩
        rw [HS.out]
        go_wp2
        have hpo := hp.out
        cases f with
        | zero => omega
        | succ f =>
        rw [ckf_bad s f i hlt (good_no s i hlt (.inl HS.out))] at hpo
        have hk := ck_some s h i hpo.symm
        refine bodyPost_ret (v := .agg #[.int .i64 2, .int .i64 i]) (by simp [results, Tryz.results52, go_sem, q0, q1]) rfl ⟨ret_agg2 (by rw [hk]; rfl) (by rw [hk]), ?_⟩
        exact below_chk _ _ _ _ _ _
      | true =>
        have HS := Lib.hid hsg
        clear hsg
        by_cases h3 : (Utf8.decode s i).1 = 65533
        · have t3 : (((Utf8.decode s i).1 : Int) == 65533) = true := by simp [h3]
          have H3 := Lib.hid h3
          clear h3
          have q0 := chk_cell0 w s (i + (Utf8.decode s i).2)
          have q1 := chk_cell1 w s (i + (Utf8.decode s i).2)
          have q2 := chk_free0 w s (i + (Utf8.decode s i).2)
          have q3 := chk_free1 w s (i + (Utf8.decode s i).2)
          go_wp2_with fail
          refine (sign_any _ _ (by have := dec_le s i; omega)).mono ?_
          rintro e w' ⟨rfl, rfl⟩
          rw [HS.out]
          go_wp2_with fail
          refine (replacement_any _ _).mono ?_
          rintro e w' ⟨rfl, rfl⟩
          rw [Lib.extract_to_end, show Lib.hasPrefix (s.data.toList.drop i) [239, 191, 189] = rep s i from rfl]
          cases hr : rep s i with
          | false =>
            have HR := Lib.hid hr
            clear hr
            go_wp2
            have hpo := hp.out
            cases f with
            | zero => omega
            | succ f =>
            rw [ckf_bad s f i hlt (good_no s i hlt (.inr ⟨H3.out, HR.out⟩))] at hpo
            have hk := ck_some s h i hpo.symm
            refine bodyPost_ret (v := .agg #[.int .i64 2, .int .i64 i]) (by simp [results, Tryz.results52, go_sem, q0, q1]) rfl ⟨ret_agg2 (by rw [hk]; rfl) (by rw [hk]), ?_⟩
            exact below_chk _ _ _ _ _ _
          | true =>
            have HR := Lib.hid hr
            clear hr
            go_wp2
            have hg := good_yes s i hlt HS.out (fun _ => HR.out)
            have hw := wd_le s i hlt
            have hw1 := wd_pos s i
            go_roundw
            case rel =>
              cases f with
              | zero => omega
              | succ f => exact ⟨i + wd s i, f, rfl, Lib.hid (by rw [← hp.out, ckf_good s f i hlt hg]), by omega, by omega⟩
            case measure =>
              rw [chk_pos, chk_pos]
              unfold wd at hw1
              omega
        · have t3 : (((Utf8.decode s i).1 : Int) == 65533) = false := by simp; omega
          have H3 := Lib.hid h3
          clear h3
          go_wp2_with fail
          refine (sign_any _ _ (by have := dec_le s i; omega)).mono ?_
          rintro e w' ⟨rfl, rfl⟩
          rw [HS.out]
          go_wp2
          have hg := good_yes s i hlt HS.out (fun hh => absurd hh H3.out)
          have hw := wd_le s i hlt
          have hw1 := wd_pos s i
          go_roundw
          case rel =>
            cases f with
            | zero => omega
            | succ f => exact ⟨i + wd s i, f, rfl, Lib.hid (by rw [← hp.out, ckf_good s f i hlt hg]), by omega, by omega⟩
          case measure =>
            rw [chk_pos, chk_pos]
            unfold wd at hw1
            omega
    · have hnx : ∀ ty, (Instr.next (.pointer (some ⟨w.heap.size + 1, 0, none⟩)) true ty).run Tryz.prog ((w.alloc (.cells #[.int .i64 0, .int .i64 0] 27)).iter s i) = _ := fun ty => by
        have := run_next_end (P := Tryz.prog) (w.alloc (.cells #[.int .i64 0, .int .i64 0] 27)) s i ty hlt
        simpa using this
      have q0 := chk_cell0 w s i
      have q1 := chk_cell1 w s i
      have q2 := chk_free0 w s i
      have q3 := chk_free1 w s i
      go_wp2
      have hpo := hp.out
      rw [ckf_end s f i (by omega)] at hpo
      have hk := ck_none s h hpo.symm
      refine bodyPost_ret (v := .agg #[.int .i64 0, .int .i64 0]) (by simp [results, Tryz.results52, go_sem, q0, q1]) rfl ⟨ret_agg2 (by rw [hk]; rfl) (by rw [hk]; rfl), ?_⟩
      exact below_chk _ _ _ _ _ _

theorem check_any (s : ByteArray) (w : World) (hs : s.size ≤ maxLen) :
    Calls Tryz.prog 52 #[.string s] w fun e w' => e = .returned (.agg #[.int .i64 (ck s).1, .int .i64 (ck s).2]) ∧ Below w.heap.size w w' := by
  by_cases h : 65536 < s.size
  · have := check_long s w h hs
    rw [ck_long s h]; exact this
  · exact check_short s w (by omega)

set_option maxHeartbeats 400000 in
theorem bad_any (a b : Int) (w : World) :
    Calls Tryz.prog 12 #[.agg #[.int .i64 a, .int .i64 b]] w fun e w' => e = .returned (.bool (a != 0)) ∧ Below w.heap.size w w' := by
  go_enter Tryz.func12, Tryz.ntmps12
  go_wp2
  go_ret
  exact ⟨rfl, (Below.refl _ _).alloc (Nat.le_refl _) _⟩
end Go.Proofs.YtnnnanemefcmdaaGreatDoor
namespace Go.Proofs.YtnnnanemefcmdaaGreatDoor
open Go.RowKit

theorem cat8 (a b : List UInt8) : (⟨a.toArray⟩ : ByteArray) ++ ⟨b.toArray⟩ = ⟨(a ++ b).toArray⟩ := by
  apply ByteArray.ext; simp [ByteArray.data_append]
theorem encode_enc (c : Nat) (h1 : c ≤ 1114111) (h2 : ¬ (55296 ≤ c ∧ c ≤ 57343)) : Utf8.encode (c : Int) = ⟨(encB c).toArray⟩ := by
  have hv : Utf8.valid (c : Int) = true := by rw [valid_nat]; simp; omega
  unfold Utf8.encode encB
  simp only [hv, if_true, Int.toNat_natCast]
  split
  · rfl
  · split
    · rfl
    · split <;> rfl
theorem ck_enc (c : Nat) (h1 : c ≤ 1114111) (h2 : ¬ (55296 ≤ c ∧ c ≤ 57343)) : ck ⟨(encB c).toArray⟩ = if signB c = true then (0, 0) else (2, 0) := by
  have hl := encB_len c
  have hz : (⟨(encB c).toArray⟩ : ByteArray).size = (encB c).length := rfl
  have hc := chr_dec (t := ⟨(encB c).toArray⟩) (i := 0) (c := c) (r := []) (by rw [rest8_zero, List.append_nil]) h1 h2
  have hw : wd ⟨(encB c).toArray⟩ 0 = (encB c).length := by
    rcases chr_wd ⟨(encB c).toArray⟩ 0 with ⟨h, _⟩ | ⟨_, h⟩
    · rw [hc] at h; simp only at h; omega
    · rw [← h, hc]
  have hg : goodAt ⟨(encB c).toArray⟩ 0 = signB c := by
    unfold goodAt
    rw [hc]
    simp only
    rw [decide_eq_true (by omega)]; rfl
  obtain ⟨f, hf⟩ : ∃ f, (⟨(encB c).toArray⟩ : ByteArray).size = f + 1 := ⟨(encB c).length - 1, by rw [hz]; omega⟩
  by_cases hs : signB c = true
  · rw [if_pos hs]
    refine ck_none _ (by omega) ?_
    rw [hf, ckf_good _ _ _ (by omega) (hg.trans hs)]
    exact ckf_end _ _ _ (by rw [hw]; omega)
  · rw [if_neg hs]
    refine ck_some _ (by omega) 0 ?_
    rw [hf, ckf_bad _ _ _ (by omega) (by rw [hg]; simpa using hs)]

set_option maxRecDepth 100000 in
set_option maxHeartbeats 1000000 in
theorem padded_same (l : List UInt8) (d : Int) (w : World) (hd : d = l.length) (hl : l.length ≤ 4) :
    Calls Tryz.prog 86 #[.string ⟨l.toArray⟩, .int .i64 d] w fun e w' => e = .returned (.string ⟨l.toArray⟩) ∧ w' = w := by
  have hz : (⟨l.toArray⟩ : ByteArray).size = l.length := rfl
  have hsub : d - (l.length : Int) = 0 := by omega
  clear hd
  go_enter Tryz.func86, Tryz.ntmps86
  go_wp2_with (go_at_call 56; refine (Tryz.strings_Repeat_zero _ _).mono ?_; rintro e w' ⟨rfl, rfl⟩)
  refine bodyPost_ret (v := .string ⟨l.toArray⟩) (by simp [results, Tryz.results86, go_sem]; exact cat8 [] l) rfl ⟨rfl, rfl⟩
set_option maxRecDepth 100000 in
set_option maxHeartbeats 1000000 in
theorem padded_one (l : List UInt8) (d : Int) (w : World) (hd : d = l.length + 1) (hl : l.length ≤ 4) :
    Calls Tryz.prog 86 #[.string ⟨l.toArray⟩, .int .i64 d] w fun e w' => e = .returned (.string ⟨(48 :: l).toArray⟩) ∧ w' = w := by
  have hz : (⟨l.toArray⟩ : ByteArray).size = l.length := rfl
  have hsub : d - (l.length : Int) = 1 := by omega
  clear hd
  go_enter Tryz.func86, Tryz.ntmps86
  go_wp2_with (go_at_call 56; refine (Tryz.strings_Repeat_one _ _).mono ?_; rintro e w' ⟨rfl, rfl⟩)
  refine bodyPost_ret (v := .string ⟨(48 :: l).toArray⟩) (by simp [results, Tryz.results86, go_sem]; exact cat8 [48] l) rfl ⟨rfl, rfl⟩
theorem escW_sign {c : Nat} (h1 : ¬ (c = 34 ∨ c = 92)) (h2 : c ≠ 10) (h3 : c ≠ 9) (h : signB c = true) : escW c = encB c := by
  unfold escW; rw [if_neg h1, if_neg h2, if_neg h3, if_pos h]
theorem escW_x {c : Nat} (h1 : ¬ (c = 34 ∨ c = 92)) (h2 : c ≠ 10) (h3 : c ≠ 9) (h : signB c = false) (h4 : c < 256) : escW c = [92, 120] ++ smallL c 2 := by
  unfold escW; rw [if_neg h1, if_neg h2, if_neg h3, if_neg (by simp [h]), if_pos h4]
theorem escW_u {c : Nat} (h1 : ¬ (c = 34 ∨ c = 92)) (h2 : c ≠ 10) (h3 : c ≠ 9) (h : signB c = false) (h4 : ¬ c < 256) : escW c = [92, 117] ++ smallL c 4 := by
  unfold escW; rw [if_neg h1, if_neg h2, if_neg h3, if_neg (by simp [h]), if_neg h4]
theorem small_one {c : Nat} (h : c < 16) : smallL c 2 = 48 :: smallL c 1 := by
  simp only [smallL]
  rw [show c / 16 ^ 1 % 16 = 0 by omega]; rfl
theorem nosign_big {c : Nat} (h : signB c = false) (h1 : c ≤ 1114111) (_h2 : ¬ (55296 ≤ c ∧ c ≤ 57343)) (h4 : ¬ c < 256) : 4096 ≤ c ∧ c < 65536 := by
  have := of_decide_eq_false h
  omega
theorem ck_sign {c : Nat} (h1 : c ≤ 1114111) (h2 : ¬ (55296 ≤ c ∧ c ≤ 57343)) (h : signB c = true) : ck ⟨(encB c).toArray⟩ = (0, 0) := by rw [ck_enc c h1 h2, if_pos h]
theorem ck_nosign {c : Nat} (h1 : c ≤ 1114111) (h2 : ¬ (55296 ≤ c ∧ c ≤ 57343)) (h : signB c = false) : ck ⟨(encB c).toArray⟩ = (2, 0) := by rw [ck_enc c h1 h2, if_neg (by simp [h])]

theorem tz_below {w w' : World} (h : TzCell w) (hb : Below w.heap.size w w') : TzCell w' := (hb.cell (show (⟨7, 15, none⟩ : Addr).block < w.heap.size from tz_lt h)).trans h

set_option maxRecDepth 100000 in
set_option maxHeartbeats 4000000 in
theorem written_any (c : Nat) (w : World) (h1 : c ≤ 1114111) (h2 : ¬ (55296 ≤ c ∧ c ≤ 57343)) (ht : TzCell w) :
    Calls Tryz.prog 54 #[.int .i32 c] w fun e w' => e = .returned (.string ⟨(escW c).toArray⟩) ∧ Below w.heap.size w w' := by
  by_cases k34 : c = 34
  · subst k34
    go_enter Tryz.func54, Tryz.ntmps54
    go_wp2
    refine bodyPost_ret (v := .string ⟨(escW 34).toArray⟩) (by simp [results, Tryz.results54, go_sem]; decide +kernel) rfl ⟨rfl, Below.refl _ _⟩
  by_cases k92 : c = 92
  · subst k92
    go_enter Tryz.func54, Tryz.ntmps54
    go_wp2
    refine bodyPost_ret (v := .string ⟨(escW 92).toArray⟩) (by simp [results, Tryz.results54, go_sem]; decide +kernel) rfl ⟨rfl, Below.refl _ _⟩
  by_cases k10 : c = 10
  · subst k10
    go_enter Tryz.func54, Tryz.ntmps54
    go_wp2
    refine bodyPost_ret (v := .string ⟨(escW 10).toArray⟩) (by simp [results, Tryz.results54, go_sem]; decide +kernel) rfl ⟨rfl, Below.refl _ _⟩
  by_cases k9 : c = 9
  · subst k9
    go_enter Tryz.func54, Tryz.ntmps54
    go_wp2
    refine bodyPost_ret (v := .string ⟨(escW 9).toArray⟩) (by simp [results, Tryz.results54, go_sem]; decide +kernel) rfl ⟨rfl, Below.refl _ _⟩
  have hen := encode_enc c h1 h2
  have b34 : ((c : Int) == 34) = false := by simp; omega
  have b92 : ((c : Int) == 92) = false := by simp; omega
  have b10 : ((c : Int) == 10) = false := by simp; omega
  have b9 : ((c : Int) == 9) = false := by simp; omega
  have hml : (⟨(encB c).toArray⟩ : ByteArray).size ≤ maxLen := by have := encB_len c; show (encB c).length ≤ _; unfold maxLen; omega
  have hor : ¬ (c = 34 ∨ c = 92) := by omega
  cases hs : signB c with
  | true =>
    have HC := Lib.hid (ck_sign h1 h2 hs)
    have HE := Lib.hid (escW_sign hor k10 k9 hs)
    clear hs k34 k92 k10 k9 hor
    go_enter Tryz.func54, Tryz.ntmps54
    go_wp2_with fail
    refine (check_any _ _ hml).mono ?_
    rintro e w1 ⟨rfl, hb⟩
    rw [HC.out]
    go_wp2_with fail
    refine (bad_any _ _ _).mono ?_
    rintro e w2 ⟨rfl, hb2⟩
    have hB := hb.trans (hb2.mono hb.size)
    have ht2 := tz_below ht hB
    clear hb hb2
    go_wp2
    refine bodyPost_ret (v := .string ⟨(encB c).toArray⟩) (by simp [results, Tryz.results54, go_sem]) rfl ⟨by rw [HE.out], hB⟩
  | false =>
    have HC := Lib.hid (ck_nosign h1 h2 hs)
    by_cases h256 : c < 256
    · have d256 : decide ((c : Int) < 256) = true := decide_eq_true (by omega)
      have HE := Lib.hid (escW_x hor k10 k9 hs h256)
      clear hs k34 k92 k10 k9 hor
      go_enter Tryz.func54, Tryz.ntmps54
      go_wp2_with fail
      refine (check_any _ _ hml).mono ?_
      rintro e w1 ⟨rfl, hb⟩
      rw [HC.out]
      go_wp2_with fail
      refine (bad_any _ _ _).mono ?_
      rintro e w2 ⟨rfl, hb2⟩
      have hB := hb.trans (hb2.mono hb.size)
      have ht2 := tz_below ht hB
      clear hb hb2
      go_wp2_with fail
      refine (format16 c (by omega) _ ht2).mono ?_
      rintro e w3 ⟨n, n1, n4, hn, hnk, rfl, hb3⟩
      have hB3 := hB.trans (hb3.mono hB.size)
      have hn2 : n = 1 ∨ n = 2 := by
        rcases hnk with h | h
        · exact .inl h
        · rcases Nat.lt_or_ge n 3 with h3 | h3
          · omega
          · have : (16 : Nat) ^ 2 ≤ 16 ^ (n - 1) := Nat.pow_le_pow_right (by decide) (by omega)
            have : (16 : Nat) ^ 2 = 256 := by decide
            omega
      clear hnk hb3 hB hml hen ht ht2 h1 h2
      rcases hn2 with rfl | rfl
      · have HS := Lib.hid (small_one (c := c) (by simpa using hn))
        clear hn
        obtain ⟨l, hL⟩ : ∃ l, smallL c 1 = l := ⟨_, rfl⟩
        have hll : l.length = 1 := by rw [← hL, smallL_len]
        have HL := Lib.hid hL
        rw [hL]
        clear hL
        go_wp2_with fail
        refine (padded_one l _ _ (by omega) (by omega)).mono ?_
        rintro e w4 ⟨rfl, rfl⟩
        go_wp2
        refine bodyPost_ret (v := .string ⟨([92, 120] ++ (48 :: l)).toArray⟩) (by simp [results, Tryz.results54, go_sem]; exact cat8 [92, 120] _) rfl ⟨by rw [HE.out, HS.out, HL.out], hB3⟩
      · clear hn
        obtain ⟨l, hL⟩ : ∃ l, smallL c 2 = l := ⟨_, rfl⟩
        have hll : l.length = 2 := by rw [← hL, smallL_len]
        have HL := Lib.hid hL
        rw [hL]
        clear hL
        go_wp2_with fail
        refine (padded_same l _ _ (by omega) (by omega)).mono ?_
        rintro e w4 ⟨rfl, rfl⟩
        go_wp2
        refine bodyPost_ret (v := .string ⟨([92, 120] ++ l).toArray⟩) (by simp [results, Tryz.results54, go_sem]; exact cat8 [92, 120] _) rfl ⟨by rw [HE.out, HL.out], hB3⟩
    · obtain ⟨hlo, hhi⟩ := nosign_big hs h1 h2 h256
      have d256 : decide ((c : Int) < 256) = false := decide_eq_false (by omega)
      have HE := Lib.hid (escW_u hor k10 k9 hs h256)
      clear hs k34 k92 k10 k9 hor
      go_enter Tryz.func54, Tryz.ntmps54
      go_wp2_with fail
      refine (check_any _ _ hml).mono ?_
      rintro e w1 ⟨rfl, hb⟩
      rw [HC.out]
      go_wp2_with fail
      refine (bad_any _ _ _).mono ?_
      rintro e w2 ⟨rfl, hb2⟩
      have hB := hb.trans (hb2.mono hb.size)
      have ht2 := tz_below ht hB
      clear hb hb2
      go_wp2_with fail
      refine (format16 c (by omega) _ ht2).mono ?_
      rintro e w3 ⟨n, n1, n4, hn, hnk, rfl, hb3⟩
      have hB3 := hB.trans (hb3.mono hB.size)
      have hn4 : n = 4 := by
        rcases Nat.lt_or_ge n 4 with h3 | h3
        · have : (16 : Nat) ^ n ≤ 16 ^ 3 := Nat.pow_le_pow_right (by decide) (by omega)
          have : (16 : Nat) ^ 3 = 4096 := by decide
          omega
        · omega
      subst hn4
      clear hnk hb3 hB hn hml hen ht ht2 h1 h2 hlo hhi
      obtain ⟨l, hL⟩ : ∃ l, smallL c 4 = l := ⟨_, rfl⟩
      have hll : l.length = 4 := by rw [← hL, smallL_len]
      have HL := Lib.hid hL
      rw [hL]
      clear hL
      go_wp2_with fail
      refine (padded_same l _ _ (by omega) (by omega)).mono ?_
      rintro e w4 ⟨rfl, rfl⟩
      go_wp2
      refine bodyPost_ret (v := .string ⟨([92, 117] ++ l).toArray⟩) (by simp [results, Tryz.results54, go_sem]; exact cat8 [92, 117] _) rfl ⟨by rw [HE.out, HL.out], hB3⟩
end Go.Proofs.YtnnnanemefcmdaaGreatDoor
