/- The walk of the program's written: a character, as it stands double-quoted. -/
import Derived.Test.YtoobbmehjpninaaGreatDoorFmt
import Derived.Test.YtoobbmehjpninaaGreatDoorShowD
import Derived.Test.YtoobbmehjpninaaGreatDoorCheckP
namespace Go.Proofs.YtoobbmehjpninaaGreatDoor
open Go.RowKit

theorem cat8 (a b : List UInt8) : (⟨a.toArray⟩ : ByteArray) ++ ⟨b.toArray⟩ = ⟨(a ++ b).toArray⟩ := by
  apply ByteArray.ext; simp [ByteArray.data_append]
theorem encode_enc (c : Nat) (h1 : c ≤ 1114111) (h2 : ¬ (55296 ≤ c ∧ c ≤ 57343)) : Utf8.encode (c : Int) = ⟨(encB c).toArray⟩ := by
  have hv : Utf8.valid (c : Int) = true := by rw [valid_nat]; simp; omega
  unfold Utf8.encode encB
  simp only [hv, if_true, Int.toNat_natCast]
  split
  · rfl
  · split
    · rfl
    · split <;> rfl
theorem ck_enc (c : Nat) (h1 : c ≤ 1114111) (h2 : ¬ (55296 ≤ c ∧ c ≤ 57343)) : ck ⟨(encB c).toArray⟩ = if signB c = true then (0, 0) else (2, 0) := by
  have hl := encB_len c
  have hz : (⟨(encB c).toArray⟩ : ByteArray).size = (encB c).length := rfl
  have hc := chr_dec (t := ⟨(encB c).toArray⟩) (i := 0) (c := c) (r := []) (by rw [rest8_zero, List.append_nil]) h1 h2
  have hw : wd ⟨(encB c).toArray⟩ 0 = (encB c).length := by
    rcases chr_wd ⟨(encB c).toArray⟩ 0 with ⟨h, _⟩ | ⟨_, h⟩
    · rw [hc] at h; simp only at h; omega
    · rw [← h, hc]
  have hg : goodAt ⟨(encB c).toArray⟩ 0 = signB c := by
    unfold goodAt
    rw [hc]
    simp only
    rw [decide_eq_true (by omega)]; rfl
  obtain ⟨f, hf⟩ : ∃ f, (⟨(encB c).toArray⟩ : ByteArray).size = f + 1 := ⟨(encB c).length - 1, by rw [hz]; omega⟩
  by_cases hs : signB c = true
  · rw [if_pos hs]
    refine ck_none _ (by omega) ?_
    rw [hf, ckf_good _ _ _ (by omega) (hg.trans hs)]
    exact ckf_end _ _ _ (by rw [hw]; omega)
  · rw [if_neg hs]
    refine ck_some _ (by omega) 0 ?_
    rw [hf, ckf_bad _ _ _ (by omega) (by rw [hg]; simpa using hs)]

set_option maxRecDepth 100000 in
set_option maxHeartbeats 1000000 in
theorem padded_same (l : List UInt8) (d : Int) (w : World) (hd : d = l.length) (hl : l.length ≤ 4) :
    Calls Tryz.prog 41 #[.string ⟨l.toArray⟩, .int .i64 d] w fun e w' => e = .returned (.string ⟨l.toArray⟩) ∧ w' = w := by
  have hz : (⟨l.toArray⟩ : ByteArray).size = l.length := rfl
  have hsub : d - (l.length : Int) = 0 := by omega
  clear hd
  go_enter Tryz.func41, Tryz.ntmps41
  go_wp2_with (go_at_call 56; refine (Tryz.strings_Repeat_zero _ _).mono ?_; rintro e w' ⟨rfl, rfl⟩)
  refine bodyPost_ret (v := .string ⟨l.toArray⟩) (by simp [results, Tryz.results41, go_sem]; exact cat8 [] l) rfl ⟨rfl, rfl⟩
set_option maxRecDepth 100000 in
set_option maxHeartbeats 1000000 in
theorem padded_one (l : List UInt8) (d : Int) (w : World) (hd : d = l.length + 1) (hl : l.length ≤ 4) :
    Calls Tryz.prog 41 #[.string ⟨l.toArray⟩, .int .i64 d] w fun e w' => e = .returned (.string ⟨(48 :: l).toArray⟩) ∧ w' = w := by
  have hz : (⟨l.toArray⟩ : ByteArray).size = l.length := rfl
  have hsub : d - (l.length : Int) = 1 := by omega
  clear hd
  go_enter Tryz.func41, Tryz.ntmps41
  go_wp2_with (go_at_call 56; refine (Tryz.strings_Repeat_one _ _).mono ?_; rintro e w' ⟨rfl, rfl⟩)
  refine bodyPost_ret (v := .string ⟨(48 :: l).toArray⟩) (by simp [results, Tryz.results41, go_sem]; exact cat8 [48] l) rfl ⟨rfl, rfl⟩
theorem escW_sign {c : Nat} (h1 : ¬ (c = 34 ∨ c = 92)) (h2 : c ≠ 10) (h3 : c ≠ 9) (h : signB c = true) : escW c = encB c := by
  unfold escW; rw [if_neg h1, if_neg h2, if_neg h3, if_pos h]
theorem escW_x {c : Nat} (h1 : ¬ (c = 34 ∨ c = 92)) (h2 : c ≠ 10) (h3 : c ≠ 9) (h : signB c = false) (h4 : c < 256) : escW c = [92, 120] ++ smallL c 2 := by
  unfold escW; rw [if_neg h1, if_neg h2, if_neg h3, if_neg (by simp [h]), if_pos h4]
theorem escW_u {c : Nat} (h1 : ¬ (c = 34 ∨ c = 92)) (h2 : c ≠ 10) (h3 : c ≠ 9) (h : signB c = false) (h4 : ¬ c < 256) : escW c = [92, 117] ++ smallL c 4 := by
  unfold escW; rw [if_neg h1, if_neg h2, if_neg h3, if_neg (by simp [h]), if_neg h4]
theorem small_one {c : Nat} (h : c < 16) : smallL c 2 = 48 :: smallL c 1 := by
  simp only [smallL]
  rw [show c / 16 ^ 1 % 16 = 0 by omega]; rfl
theorem nosign_big {c : Nat} (h : signB c = false) (h1 : c ≤ 1114111) (_h2 : ¬ (55296 ≤ c ∧ c ≤ 57343)) (h4 : ¬ c < 256) : 4096 ≤ c ∧ c < 65536 := by
  have := of_decide_eq_false h
  omega
theorem ck_sign {c : Nat} (h1 : c ≤ 1114111) (h2 : ¬ (55296 ≤ c ∧ c ≤ 57343)) (h : signB c = true) : ck ⟨(encB c).toArray⟩ = (0, 0) := by rw [ck_enc c h1 h2, if_pos h]
theorem ck_nosign {c : Nat} (h1 : c ≤ 1114111) (h2 : ¬ (55296 ≤ c ∧ c ≤ 57343)) (h : signB c = false) : ck ⟨(encB c).toArray⟩ = (2, 0) := by rw [ck_enc c h1 h2, if_neg (by simp [h])]

theorem tz_below {w w' : World} (h : TzCell w) (hb : Below w.heap.size w w') : TzCell w' := (hb.cell (show (⟨7, 15, none⟩ : Addr).block < w.heap.size from tz_lt h)).trans h

set_option maxRecDepth 100000 in
set_option maxHeartbeats 4000000 in
theorem written_any (c : Nat) (w : World) (h1 : c ≤ 1114111) (h2 : ¬ (55296 ≤ c ∧ c ≤ 57343)) (ht : TzCell w) :
    Calls Tryz.prog 30 #[.int .i32 c] w fun e w' => e = .returned (.string ⟨(escW c).toArray⟩) ∧ Below w.heap.size w w' := by
  by_cases k34 : c = 34
  · subst k34
    go_enter Tryz.func30, Tryz.ntmps30
    go_wp2
    refine bodyPost_ret (v := .string ⟨(escW 34).toArray⟩) (by simp [results, Tryz.results30, go_sem]; decide +kernel) rfl ⟨rfl, Below.refl _ _⟩
  by_cases k92 : c = 92
  · subst k92
    go_enter Tryz.func30, Tryz.ntmps30
    go_wp2
    refine bodyPost_ret (v := .string ⟨(escW 92).toArray⟩) (by simp [results, Tryz.results30, go_sem]; decide +kernel) rfl ⟨rfl, Below.refl _ _⟩
  by_cases k10 : c = 10
  · subst k10
    go_enter Tryz.func30, Tryz.ntmps30
    go_wp2
    refine bodyPost_ret (v := .string ⟨(escW 10).toArray⟩) (by simp [results, Tryz.results30, go_sem]; decide +kernel) rfl ⟨rfl, Below.refl _ _⟩
  by_cases k9 : c = 9
  · subst k9
    go_enter Tryz.func30, Tryz.ntmps30
    go_wp2
    refine bodyPost_ret (v := .string ⟨(escW 9).toArray⟩) (by simp [results, Tryz.results30, go_sem]; decide +kernel) rfl ⟨rfl, Below.refl _ _⟩
  have hen := encode_enc c h1 h2
  have b34 : ((c : Int) == 34) = false := by simp; omega
  have b92 : ((c : Int) == 92) = false := by simp; omega
  have b10 : ((c : Int) == 10) = false := by simp; omega
  have b9 : ((c : Int) == 9) = false := by simp; omega
  have hml : (⟨(encB c).toArray⟩ : ByteArray).size ≤ maxLen := by have := encB_len c; show (encB c).length ≤ _; unfold maxLen; omega
  have hor : ¬ (c = 34 ∨ c = 92) := by omega
  cases hs : signB c with
  | true =>
    have HC := Lib.hid (ck_sign h1 h2 hs)
    have HE := Lib.hid (escW_sign hor k10 k9 hs)
    clear hs k34 k92 k10 k9 hor
    go_enter Tryz.func30, Tryz.ntmps30
    go_wp2_with fail
    refine (check_any _ _ hml).mono ?_
    rintro e w1 ⟨rfl, hb⟩
    rw [HC.out]
    go_wp2_with fail
    refine (bad_any _ _ _).mono ?_
    rintro e w2 ⟨rfl, hb2⟩
    have hB := hb.trans (hb2.mono hb.size)
    have ht2 := tz_below ht hB
    clear hb hb2
    go_wp2
    refine bodyPost_ret (v := .string ⟨(encB c).toArray⟩) (by simp [results, Tryz.results30, go_sem]) rfl ⟨by rw [HE.out], hB⟩
  | false =>
    have HC := Lib.hid (ck_nosign h1 h2 hs)
    by_cases h256 : c < 256
    · have d256 : decide ((c : Int) < 256) = true := decide_eq_true (by omega)
      have HE := Lib.hid (escW_x hor k10 k9 hs h256)
      clear hs k34 k92 k10 k9 hor
      go_enter Tryz.func30, Tryz.ntmps30
      go_wp2_with fail
      refine (check_any _ _ hml).mono ?_
      rintro e w1 ⟨rfl, hb⟩
      rw [HC.out]
      go_wp2_with fail
      refine (bad_any _ _ _).mono ?_
      rintro e w2 ⟨rfl, hb2⟩
      have hB := hb.trans (hb2.mono hb.size)
      have ht2 := tz_below ht hB
      clear hb hb2
      go_wp2_with fail
      refine (format16 c (by omega) _ ht2).mono ?_
      rintro e w3 ⟨n, n1, n4, hn, hnk, rfl, hb3⟩
      have hB3 := hB.trans (hb3.mono hB.size)
      have hn2 : n = 1 ∨ n = 2 := by
        rcases hnk with h | h
        · exact .inl h
        · rcases Nat.lt_or_ge n 3 with h3 | h3
          · omega
          · have : (16 : Nat) ^ 2 ≤ 16 ^ (n - 1) := Nat.pow_le_pow_right (by decide) (by omega)
            have : (16 : Nat) ^ 2 = 256 := by decide
            omega
      clear hnk hb3 hB hml hen ht ht2 h1 h2
      rcases hn2 with rfl | rfl
      · have HS := Lib.hid (small_one (c := c) (by simpa using hn))
        clear hn
        obtain ⟨l, hL⟩ : ∃ l, smallL c 1 = l := ⟨_, rfl⟩
        have hll : l.length = 1 := by rw [← hL, smallL_len]
        have HL := Lib.hid hL
        rw [hL]
        clear hL
        go_wp2_with fail
        refine (padded_one l _ _ (by omega) (by omega)).mono ?_
        rintro e w4 ⟨rfl, rfl⟩
        go_wp2
        refine bodyPost_ret (v := .string ⟨([92, 120] ++ (48 :: l)).toArray⟩) (by simp [results, Tryz.results30, go_sem]; exact cat8 [92, 120] _) rfl ⟨by rw [HE.out, HS.out, HL.out], hB3⟩
      · clear hn
        obtain ⟨l, hL⟩ : ∃ l, smallL c 2 = l := ⟨_, rfl⟩
        have hll : l.length = 2 := by rw [← hL, smallL_len]
        have HL := Lib.hid hL
        rw [hL]
        clear hL
        go_wp2_with fail
        refine (padded_same l _ _ (by omega) (by omega)).mono ?_
        rintro e w4 ⟨rfl, rfl⟩
        go_wp2
        refine bodyPost_ret (v := .string ⟨([92, 120] ++ l).toArray⟩) (by simp [results, Tryz.results30, go_sem]; exact cat8 [92, 120] _) rfl ⟨by rw [HE.out, HL.out], hB3⟩
    · obtain ⟨hlo, hhi⟩ := nosign_big hs h1 h2 h256
      have d256 : decide ((c : Int) < 256) = false := decide_eq_false (by omega)
      have HE := Lib.hid (escW_u hor k10 k9 hs h256)
      clear hs k34 k92 k10 k9 hor
      go_enter Tryz.func30, Tryz.ntmps30
      go_wp2_with fail
      refine (check_any _ _ hml).mono ?_
      rintro e w1 ⟨rfl, hb⟩
      rw [HC.out]
      go_wp2_with fail
      refine (bad_any _ _ _).mono ?_
      rintro e w2 ⟨rfl, hb2⟩
      have hB := hb.trans (hb2.mono hb.size)
      have ht2 := tz_below ht hB
      clear hb hb2
      go_wp2_with fail
      refine (format16 c (by omega) _ ht2).mono ?_
      rintro e w3 ⟨n, n1, n4, hn, hnk, rfl, hb3⟩
      have hB3 := hB.trans (hb3.mono hB.size)
      have hn4 : n = 4 := by
        rcases Nat.lt_or_ge n 4 with h3 | h3
        · have : (16 : Nat) ^ n ≤ 16 ^ 3 := Nat.pow_le_pow_right (by decide) (by omega)
          have : (16 : Nat) ^ 3 = 4096 := by decide
          omega
        · omega
      subst hn4
      clear hnk hb3 hB hn hml hen ht ht2 h1 h2 hlo hhi
      obtain ⟨l, hL⟩ : ∃ l, smallL c 4 = l := ⟨_, rfl⟩
      have hll : l.length = 4 := by rw [← hL, smallL_len]
      have HL := Lib.hid hL
      rw [hL]
      clear hL
      go_wp2_with fail
      refine (padded_same l _ _ (by omega) (by omega)).mono ?_
      rintro e w4 ⟨rfl, rfl⟩
      go_wp2
      refine bodyPost_ret (v := .string ⟨([92, 117] ++ l).toArray⟩) (by simp [results, Tryz.results30, go_sem]; exact cat8 [92, 117] _) rfl ⟨by rw [HE.out, HL.out], hB3⟩
end Go.Proofs.YtoobbmehjpninaaGreatDoor
