/- The walk of the program's Fits (layer 6). -/
import Derived.Test.YtnnnanemefcmdaaGreatDoorZL0e
import Derived.Test.YtnnnanemefcmdaaGreatDoorZL0d
import Derived.Test.YtnnnanemefcmdaaGreatDoorZL0c
namespace Go.Proofs.YtnnnanemefcmdaaGreatDoor
open Go.RowKit

theorem cell_at3 {u : World} {b : Nat} {cs : Array Value} {t : TypeId} (h : u.heap[b]? = some (.cells cs t)) (j : Nat) (v : Value) (hv : cs[j]? = some v) : u.cell? ⟨b, j, none⟩ = some v := by
  simp [World.cell?, h, hv]
theorem fit_step {L : List UInt8} {A : List (Nat × Nat × List UInt8)} {k : Nat} {x : Nat × Nat × List UInt8} (h : A[k]? = some x) : (A.drop k).all (okX L) = (okX L x && (A.drop (k + 1)).all (okX L)) := by
  obtain ⟨hk, hb⟩ := List.getElem?_eq_some_iff.1 h
  rw [List.drop_eq_getElem_cons hk, hb, List.all_cons]
/-- Of the lines of a text: what stands on each, and its text behind the blanks. -/
theorem lns_beh (L : List UInt8) : ∀ (f p : Nat), ∀ x ∈ lns f (L.drop p) p, beh (rowOf L x) = x.2.2 := by
  intro f
  induction f with
  | zero => intro p x hx; cases hx
  | succ f ih =>
    intro p x hx
    rw [lns] at hx
    split at hx
    · cases hx
    · rcases List.mem_cons.1 hx with rfl | hx
      · have h2 := beh_le (row (L.drop p))
        unfold rowOf
        simp only
        rw [show (row (L.drop p)).length - (beh (row (L.drop p))).length + (beh (row (L.drop p))).length = (row (L.drop p)).length by omega, ← row_take]
      · rw [List.drop_drop] at hx
        exact ih (p + (row (L.drop p)).length + 1) x (by rw [show p + (row (L.drop p)).length + 1 = p + ((row (L.drop p)).length + 1) by omega]; exact hx)

set_option maxRecDepth 100000 in
set_option maxHeartbeats 4000000 in
theorem fits_bad (s : ByteArray) (w : World) (_hs : s.size ≤ 3000) (h : (cutB s).length < 2 ∨ bt s 0 = 10 ∨ bt s 0 = 32) :
    Calls Tryz.prog 25 #[.string s] w fun e w' => e = .returned (.bool false) ∧ Below w.heap.size w w' := by
  have hC := Tryz.strings_Contains_one s 10 w
  rcases lf_sp s.data.toList with ⟨h1, h2⟩ | ⟨h1, h2⟩
  · rw [decide_eq_true h1] at hC
    rw [← cutB_len_sp] at h2
    have h0 : 0 < s.size := by
      rcases Nat.eq_zero_or_pos s.size with e | e
      · have e2 : s.data.toList = [] := List.eq_nil_of_length_eq_zero (by simpa using e)
        rw [e2] at h1; exact absurd h1 (by decide)
      · exact e
    have hg0 := bt_get s 0 h0
    by_cases h32 : bt s 0 = 32
    · have q1 : ((s[0].toNat : Int) == 32) = true := by simp only [beq_iff_eq]; omega
      clear h1 h2 h hg0 h32
      go_enter Tryz.func25, Tryz.ntmps25
      go_wp2_with fail
      refine hC.mono ?_
      rintro e w' ⟨rfl, rfl⟩
      go_wp2
      go_ret
      exact ⟨rfl, Below.refl _ _⟩
    · have q1 : ((s[0].toNat : Int) == 32) = false := by simp only [beq_eq_false_iff_ne, ne_eq]; omega
      have q2 : ((s[0].toNat : Int) == 10) = true := by simp only [beq_iff_eq]; omega
      clear h1 h2 h hg0 h32
      go_enter Tryz.func25, Tryz.ntmps25
      go_wp2_with fail
      refine hC.mono ?_
      rintro e w' ⟨rfl, rfl⟩
      go_wp2
      go_ret
      exact ⟨rfl, Below.refl _ _⟩
  · rw [decide_eq_false h1] at hC
    clear h1 h2 h
    go_enter Tryz.func25, Tryz.ntmps25
    go_wp2_with fail
    refine hC.mono ?_
    rintro e w' ⟨rfl, rfl⟩
    go_wp2
    go_ret
    exact ⟨rfl, Below.refl _ _⟩

set_option maxRecDepth 100000 in
set_option maxHeartbeats 8000000 in
theorem fits_good (s : ByteArray) (w : World) (hs : s.size ≤ 3000) (hT : Lib.Utf8Tabs 0 1 w) (h : ¬ ((cutB s).length < 2 ∨ bt s 0 = 10 ∨ bt s 0 = 32)) :
    Calls Tryz.prog 25 #[.string s] w fun e w' => e = .returned (.bool (fitB shownB s)) ∧ Below w.heap.size w w' := by
  have hC := Tryz.strings_Contains_one s 10 w
  have HF := Lib.hid (fit_lines s h)
  have hlf : 0 ≤ Lib.indexByte s.data.toList 10 := by
    rcases lf_sp s.data.toList with ⟨h1, h2⟩ | ⟨h1, h2⟩
    · exact h1
    · rw [← cutB_len_sp] at h2; omega
  have h0 : 0 < s.size := by
    rcases Nat.eq_zero_or_pos s.size with e | e
    · have e2 : s.data.toList = [] := List.eq_nil_of_length_eq_zero (by simpa using e)
      rw [e2] at hlf; exact absurd hlf (by decide)
    · exact e
  rw [decide_eq_true hlf] at hC
  have hg0 := bt_get s 0 h0
  have q1 : ((s[0].toNat : Int) == 32) = false := by simp only [beq_eq_false_iff_ne, ne_eq]; omega
  have q2 : ((s[0].toNat : Int) == 10) = false := by simp only [beq_eq_false_iff_ne, ne_eq]; omega
  have HT := Lib.hid hT
  have HIN := Lib.hid (show ∀ x ∈ lns (s.size + 1) s.data.toList 0, x.1 + x.2.1 + x.2.2.length ≤ s.size from fun x hx => by
    have := lns_in s.data.toList (s.size + 1) 0 x (by simpa using hx)
    simpa using this)
  have HBE := Lib.hid (show ∀ x ∈ lns (s.size + 1) s.data.toList 0, beh (rowOf s.data.toList x) = x.2.2 from fun x hx => lns_beh s.data.toList (s.size + 1) 0 x (by simpa using hx))
  clear hlf h hg0 hT
  go_enter Tryz.func25, Tryz.ntmps25
  go_wp2_with fail
  refine hC.mono ?_
  rintro e w' ⟨rfl, rfl⟩
  go_wp2_with fail
  refine (lines_any s _ (by omega)).mono ?_
  rintro e w1 ⟨v, rfl, hown, hb1⟩
  obtain ⟨A, hA⟩ : ∃ A, lns (s.size + 1) s.data.toList 0 = A := ⟨_, rfl⟩
  rw [hA] at hown HIN HF HBE
  clear hA hC
  obtain ⟨r, g, cap, rfl, hg, hc⟩ := lines_at hown
  have HC := Lib.hid hc
  have hg1 : 0 < A.length → g < w1.heap.size := fun h => (hg h).2.2.1
  have hr1 : 0 < A.length → r = some ⟨g, 0, none⟩ := fun h => (hg h).1
  have hcp : 0 < A.length → A.length ≤ cap ∧ cap ≤ maxLen := fun h => ⟨(hg h).2.2.2.1, (hg h).2.2.2.2⟩
  have HG1 := Lib.hid hg1
  have HR1 := Lib.hid hr1
  have HCP := Lib.hid hcp
  have hw1 := hb1.size
  clear hown hc hg hg1 hr1 hcp
  go_wp2_with fail
  go_loopw [21] (fun j wr => ∃ k : Nat, j = .int .i64 k ∧ k ≤ A.length ∧ Hid (fitB shownB s = (A.drop k).all (okX s.data.toList)) ∧ Below w1.heap.size w1 wr) (fun j _ => A.length - (intOf j).toNat)
  case atStart => exact ⟨0, rfl, by omega, Lib.hid (by rw [HF.out]; rfl), Below.refl _ _⟩
  case round =>
    obtain ⟨k, rfl, hk, hF, hb2⟩ := hrel
    have hz := hb2.size
    by_cases hlt : k < A.length
    · obtain ⟨⟨p, q, T⟩, hx⟩ : ∃ x, A[k]? = some x := ⟨_, List.getElem?_eq_getElem hlt⟩
      have hgl := HG1.out (by omega)
      obtain ⟨hnc, hcm⟩ := HCP.out (by omega)
      obtain ⟨q0, q1, q2⟩ := (HC.out.keep hgl hb2) k _ hx
      simp only at q0 q1 q2
      have hin := HIN.out _ (List.mem_of_getElem? hx)
      simp only at hin
      have hbe := HBE.out _ (List.mem_of_getElem? hx)
      simp only at hbe
      have hR := ext_rowOf s (p, q, T)
      simp only at hR
      have hst := fit_step (L := s.data.toList) hx
      obtain ⟨R, hRR⟩ : ∃ R, rowOf s.data.toList (p, q, T) = R := ⟨_, rfl⟩
      rw [okX_eq s.data.toList p q T R hRR (by rw [← hRR]; exact hbe)] at hst
      have hRl : R.length ≤ s.size := by
        have : (rowOf s.data.toList (p, q, T)).length ≤ q + T.length := by unfold rowOf; exact List.length_take_le _ _
        rw [hRR] at this; omega
      rw [hRR] at hR
      have HST := Lib.hid hst
      have HRX := Lib.hid (show s.extract p (p + q + (⟨T.toArray⟩ : ByteArray).size) = ⟨R.toArray⟩ from hR)
      have HIX := Lib.hid (show p + q + (⟨T.toArray⟩ : ByteArray).size ≤ s.size from hin)
      have HTL := Lib.hid (show (⟨T.toArray⟩ : ByteArray).size ≤ 3000 by show T.length ≤ 3000; omega)
      have hsuf := Tryz.strings_HasSuffix ⟨R.toArray⟩ ⟨#[32]⟩
      obtain rfl := HR1.out (by omega)
      unfold maxLen at hcm
      have hB3 := hb2.alloc hz (.cells #[.int .i64 p, .int .i64 q, .string ⟨T.toArray⟩] 89)
      have hbox := heap_alloc_new wr (.cells #[.int .i64 p, .int .i64 q, .string ⟨T.toArray⟩] 89)
      have HSU := Lib.hid (show ∀ w, Calls Tryz.prog 65 #[.string ⟨R.toArray⟩, .string ⟨#[32]⟩] w fun e w' => e = .returned (.bool (Lib.hasSuffix R [32])) ∧ w' = w from fun w => hsuf w (by show R.length ≤ _; omega))
      have HBX := Lib.hid hbox
      clear hx hR hRR hin hbe hst hsuf hb2 hbox hRl
      have HTT := Lib.hid (Utf8Tabs_below HT.out (hb1.trans (hB3.mono hw1)))
      cases hv : shownB ⟨T.toArray⟩ with
      | false =>
        have HR := Lib.hid (show fitB shownB s = false by rw [hF.out, HST.out, hv]; rfl)
        have HV := Lib.hid hv
        clear hv
        go_wp2_with fail
        refine (shown_any ⟨T.toArray⟩ _ HTL.out HTT.out).mono ?_
        rintro e w3 ⟨rfl, hb3⟩
        rw [HV.out]
        have hB4 := hB3.trans (hb3.mono hB3.size)
        have hB := hb1.trans (hB4.mono hw1)
        clear hB3 hb3 hB4
        go_wp2
        go_ret
        exact ⟨by rw [HR.out]; rfl, hB⟩
      | true =>
        have HV := Lib.hid hv
        have HST2 := Lib.hid (show fitB shownB s = (!Lib.hasSuffix R [32] && (A.drop (k + 1)).all (okX s.data.toList)) by rw [hF.out, HST.out, hv]; rfl)
        clear hv
        go_wp2_with fail
        refine (shown_any ⟨T.toArray⟩ _ HTL.out HTT.out).mono ?_
        rintro e w3 ⟨rfl, hb3⟩
        rw [HV.out]
        have hB4 := hB3.trans (hb3.mono hB3.size)
        have hr3 := (hb3.block wr.heap.size (by simp)).trans HBX.out
        have c0 := cell_at3 hr3 0 _ rfl
        have c1 := cell_at3 hr3 1 _ rfl
        have c2 := cell_at3 hr3 2 _ rfl
        clear hB3 hb3 hr3 q0 q1 q2
        go_wp2_with fail
        refine (row_of s ⟨T.toArray⟩ p q R _ (by omega) HIX.out HRX.out).mono ?_
        rintro e w4 ⟨rfl, hb4⟩
        have hB5 := hB4.trans (hb4.mono hB4.size)
        clear hB4 hb4 c0 c1 c2
        go_wp2_with fail
        refine (HSU.out _).mono ?_
        rintro e w' ⟨rfl, hw'⟩
        subst hw'
        cases hh : Lib.hasSuffix R [32] with
        | true =>
          have HR := Lib.hid (show fitB shownB s = false by rw [HST2.out, hh]; rfl)
          have hB := hb1.trans (hB5.mono hw1)
          clear hh hB5
          go_wp2
          go_ret
          exact ⟨by rw [HR.out]; rfl, hB⟩
        | false =>
          have HN := Lib.hid (show fitB shownB s = (A.drop (k + 1)).all (okX s.data.toList) by rw [HST2.out, hh]; rfl)
          clear hh
          go_wp2
          go_roundw
          case rel => exact ⟨k + 1, by go_num, by omega, HN, hB5⟩
          case measure => simp [intOf]; omega
    · have HR := Lib.hid (show fitB shownB s = true by rw [hF.out, List.drop_eq_nil_of_le (by omega)]; rfl)
      have hB := hb1.trans (hb2.mono hw1)
      go_wp2
      go_ret
      exact ⟨by rw [HR.out]; rfl, hB⟩

theorem fits_any (s : ByteArray) (w : World) (hs : s.size ≤ 3000) (hT : Lib.Utf8Tabs 0 1 w) :
    Calls Tryz.prog 25 #[.string s] w fun e w' => e = .returned (.bool (fitB shownB s)) ∧ Below w.heap.size w w' := by
  by_cases h : (cutB s).length < 2 ∨ bt s 0 = 10 ∨ bt s 0 = 32
  · rw [fit_bad s h]; exact fits_bad s w hs h
  · exact fits_good s w hs hT h
end Go.Proofs.YtnnnanemefcmdaaGreatDoor
namespace Go.Proofs.YtnnnanemefcmdaaGreatDoor
open Go.RowKit

theorem easy_no {c : Nat} (h : wordB c = false) (h1 : c ≠ 46) (h2 : c ≠ 47) : easyC c = false := by simp [easyC, h, h1, h2]
theorem byte_eq {b : UInt8} {c : Nat} (h : b.toNat = c) : ((b.toNat : Int) != c) = false ∧ ((b.toNat : Int) == c) = true := by simp [h]
theorem byte_ne {b : UInt8} {c : Nat} (h : b.toNat ≠ c) : ((b.toNat : Int) != c) = true ∧ ((b.toNat : Int) == c) = false := by
  have : (b.toNat : Int) ≠ c := by omega
  exact ⟨by simp [bne_iff_ne, this], by simp [this]⟩

/-- What a round of either Easy finds at a byte. -/
theorem easy_ways (b : UInt8) : wordB b.toNat = true ∧ easyC b.toNat = true ∨ wordB b.toNat = false ∧ b.toNat = 46 ∧ easyC b.toNat = true ∨ wordB b.toNat = false ∧ b.toNat ≠ 46 ∧ b.toNat = 47 ∧ easyC b.toNat = true ∨ wordB b.toNat = false ∧ b.toNat ≠ 46 ∧ b.toNat ≠ 47 ∧ easyC b.toNat = false := by
  cases h : wordB b.toNat with
  | true => left; exact ⟨rfl, by simp [easyC, h]⟩
  | false =>
    by_cases h1 : b.toNat = 46
    · right; left; exact ⟨rfl, h1, by simp [easyC, h1]⟩
    · by_cases h2 : b.toNat = 47
      · right; right; left; exact ⟨rfl, h1, h2, by simp [easyC, h2]⟩
      · right; right; right; exact ⟨rfl, h1, h2, easy_no h h1 h2⟩

set_option maxRecDepth 100000 in
set_option maxHeartbeats 4000000 in
theorem easy_any (s : ByteArray) (w : World) (hs : s.size ≤ 3000) :
    Calls Tryz.prog 61 #[.string s] w fun e w' => e = .returned (.bool (easyB s)) ∧ w = w' := by
  by_cases h0 : 0 < s.size
  · obtain ⟨e1, e2⟩ := ne_facts h0
    have hb0 := bt_get s 0 h0
    cases hl : letterB (s[0].toNat) with
    | true =>
      have HN := Lib.hid (show easyB s = allB easyC s by unfold easyB; rw [decide_eq_true h0, ← hb0, hl]; simp)
      have HL := Lib.hid hl
      clear hl hb0
      go_enter Tryz.func61, Tryz.ntmps61
      go_wp2_with fail
      refine (letter_any _ _ (UInt8.toNat_lt _)).mono ?_
      rintro e w' ⟨rfl, rfl⟩
      rw [HL.out]
      go_wp2
      go_loop [14] (fun j => ∃ k : Nat, j = .int .i64 k ∧ k ≤ s.size ∧ Hid ((s.data.toList.take k).all (fun b => easyC b.toNat) = true)) (fun j => s.size - (intOf j).toNat)
      case atStart => exact ⟨0, rfl, by omega, Lib.hid (by simp)⟩
      case round =>
        obtain ⟨k, rfl, hk, ha⟩ := hrel
        by_cases hlt : k < s.size
        · rcases easy_ways s[k] with ⟨hb, he⟩ | ⟨hb, h1, he⟩ | ⟨hb, h1, h2, he⟩ | ⟨hb, h1, h2, he⟩
          · have HB := Lib.hid hb
            have HE := Lib.hid he
            clear hb he
            go_wp2_with fail
            refine (word_any _ _ (UInt8.toNat_lt _)).mono ?_
            rintro e w' ⟨rfl, rfl⟩
            rw [HB.out]
            go_wp2
            go_round
            case rel => exact ⟨k + 1, by go_num, by omega, Lib.hid (all_step hlt HE.out ha.out)⟩
            case measure => simp [intOf]; omega
          · have HB := Lib.hid hb
            have HE := Lib.hid he
            have q1 : ((s[k].toNat : Int) != 46) = false := (byte_eq h1).1
            clear hb he h1
            go_wp2_with fail
            refine (word_any _ _ (UInt8.toNat_lt _)).mono ?_
            rintro e w' ⟨rfl, rfl⟩
            rw [HB.out]
            go_wp2
            go_round
            case rel => exact ⟨k + 1, by go_num, by omega, Lib.hid (all_step hlt HE.out ha.out)⟩
            case measure => simp [intOf]; omega
          · have HB := Lib.hid hb
            have HE := Lib.hid he
            have q1 : ((s[k].toNat : Int) != 46) = true := (byte_ne h1).1
            have q2 : ((s[k].toNat : Int) != 47) = false := (byte_eq h2).1
            clear hb he h1 h2
            go_wp2_with fail
            refine (word_any _ _ (UInt8.toNat_lt _)).mono ?_
            rintro e w' ⟨rfl, rfl⟩
            rw [HB.out]
            go_wp2
            go_round
            case rel => exact ⟨k + 1, by go_num, by omega, Lib.hid (all_step hlt HE.out ha.out)⟩
            case measure => simp [intOf]; omega
          · have HB := Lib.hid hb
            have HE := Lib.hid he
            have q1 : ((s[k].toNat : Int) != 46) = true := (byte_ne h1).1
            have q2 : ((s[k].toNat : Int) != 47) = true := (byte_ne h2).1
            clear hb he h1 h2
            go_wp2_with fail
            refine (word_any _ _ (UInt8.toNat_lt _)).mono ?_
            rintro e w' ⟨rfl, rfl⟩
            rw [HB.out]
            go_wp2
            go_ret
            exact ⟨ret_b (by rw [HN.out, all_bad hlt HE.out]), rfl⟩
        · go_wp2
          go_ret
          exact ⟨ret_b (by rw [HN.out, all_end (by omega) ha.out]), rfl⟩
    | false =>
      have HN := Lib.hid (show easyB s = false by unfold easyB; rw [decide_eq_true h0, ← hb0, hl]; simp)
      have HL := Lib.hid hl
      clear hl hb0
      go_enter Tryz.func61, Tryz.ntmps61
      go_wp2_with fail
      refine (letter_any _ _ (UInt8.toNat_lt _)).mono ?_
      rintro e w' ⟨rfl, rfl⟩
      rw [HL.out]
      go_wp2
      go_ret
      exact ⟨ret_b HN.out.symm, rfl⟩
  · obtain rfl := empty_of h0
    go_enter Tryz.func61, Tryz.ntmps61
    go_wp2
    go_ret
    exact ⟨rfl, rfl⟩

/-- What the document's Easy asks of the first byte. -/
theorem first_ways (b : UInt8) : b.toNat = 45 ∧ letterB b.toNat = false ∨ b.toNat ≠ 45 ∧ (48 ≤ b.toNat ∧ b.toNat ≤ 57) ∧ letterB b.toNat = false ∨ b.toNat ≠ 45 ∧ b.toNat < 48 ∧ letterB b.toNat = false ∧ wordB b.toNat = false ∨ b.toNat ≠ 45 ∧ 57 < b.toNat ∧ letterB b.toNat = wordB b.toNat := by
  unfold letterB wordB
  have := b.toNat_lt
  by_cases h1 : b.toNat = 45
  · left; exact ⟨h1, by simp; omega⟩
  · by_cases h2 : b.toNat < 48
    · right; right; left; exact ⟨h1, h2, by simp; omega, by simp; omega⟩
    · by_cases h3 : b.toNat ≤ 57
      · right; left; exact ⟨h1, ⟨by omega, h3⟩, by simp; omega⟩
      · right; right; right; exact ⟨h1, by omega, by rw [Bool.eq_iff_iff]; simp; omega⟩
end Go.Proofs.YtnnnanemefcmdaaGreatDoor
namespace Go.Proofs.YtnnnanemefcmdaaGreatDoor
open Go.RowKit

def ex1 : ByteArray := ⟨#[97, 32, 98, 58, 32, 99]⟩
theorem ex1_begins : beginsB ex1 0 false = true := by decide +kernel
theorem ex1_plain : plainE ex1 false 0 = 3 := by decide +kernel
theorem ex2_name : nameB ⟨#[97, 45, 49]⟩ = true := by decide +kernel
theorem ex3_easy : easyB ⟨#[97, 46, 98]⟩ = true := by decide +kernel
theorem ex4_opens : opensB 38 = true := by decide +kernel

set_option maxRecDepth 100000 in
set_option maxHeartbeats 1000000 in
theorem awake3_any (w : World) :
    Calls Tryz.prog 24 #[] w fun e w' => e = .returned (.bool true) ∧ Below w.heap.size w w' := by
  go_enter Tryz.func24, Tryz.ntmps24
  go_wp2_with fail
  refine (plain_yes ex1 0 false _ (by decide) (by decide) (Lib.hid ex1_begins)).mono ?_
  rintro e w' ⟨rfl, rfl⟩
  rw [ex1_plain]
  go_wp2_with fail
  refine (awake2_any _).mono ?_
  rintro e w1 ⟨rfl, hb⟩
  go_wp2_with fail
  refine (name_any ⟨#[97, 45, 49]⟩ _ (by decide)).mono ?_
  rintro e w' ⟨rfl, rfl⟩
  rw [ex2_name]
  go_wp2_with fail
  refine (easy_any ⟨#[97, 46, 98]⟩ _ (by decide)).mono ?_
  rintro e w' ⟨rfl, rfl⟩
  rw [ex3_easy]
  go_wp2_with fail
  refine (opens_any 38 _ (by decide)).mono ?_
  rintro e w' ⟨rfl, rfl⟩
  rw [ex4_opens]
  go_wp2
  go_ret
  exact ⟨rfl, hb⟩
end Go.Proofs.YtnnnanemefcmdaaGreatDoor
namespace Go.Proofs.YtnnnanemefcmdaaGreatDoor
open Go.RowKit

theorem ex6_hd : hdN ⟨#[97, 10, 98, 10]⟩ = [124] := by decide +kernel
theorem ex6_wr : wrB (ind 2) ⟨#[97, 10, 98, 10]⟩ = [⟨#[32, 32, 97]⟩, ⟨#[32, 32, 98]⟩] := by decide +kernel
theorem ex6_fit : fitB shownB ⟨#[97, 10, 98, 10]⟩ = true := by decide +kernel

set_option maxRecDepth 100000 in
set_option maxHeartbeats 2000000 in
theorem awake6_any (w : World) (hT : Lib.Utf8Tabs 0 1 w) :
    Calls Tryz.prog 14 #[] w fun e w' => e = .returned (.bool true) ∧ Below w.heap.size w w' := by
  have HT := Lib.hid hT
  have hW := write_any ⟨#[97, 10, 98, 10]⟩ 2 w (by decide)
  rw [ex6_hd, ex6_wr] at hW
  clear hT
  go_enter Tryz.func14, Tryz.ntmps14
  go_wp2_with fail
  refine hW.mono ?_
  rintro e w1 ⟨v, rfl, hown, hb1⟩
  obtain ⟨g, cap, rfl, hnc, hcm, hg, hgl, hc⟩ := own_cellsS hown (by decide)
  have c0 : w1.cell? ⟨g, 0, none⟩ = some (.string ⟨#[32, 32, 97]⟩) := hc 0 _ rfl
  have c1 : w1.cell? ⟨g, 1, none⟩ = some (.string ⟨#[32, 32, 98]⟩) := hc 1 _ rfl
  clear hc hown hW
  go_wp2_with fail
  refine (awake3_any _).mono ?_
  rintro e w2 ⟨rfl, hb2⟩
  have d0 := (hb2.cell (p := ⟨g, 0, none⟩) hgl).trans c0
  have d1 := (hb2.cell (p := ⟨g, 1, none⟩) hgl).trans c1
  have hB2 := hb1.trans (hb2.mono hb1.size)
  have hF := fits_any ⟨#[97, 10, 98, 10]⟩ w2 (by decide) (Utf8Tabs_below HT.out hB2)
  rw [ex6_fit] at hF
  clear c0 c1 hb1 hb2
  go_wp2_with fail
  refine hF.mono ?_
  rintro e w3 ⟨rfl, hb3⟩
  have hB3 := hB2.trans (hb3.mono hB2.size)
  clear d0 d1 hF hb3 hB2
  go_wp2
  go_ret
  exact ⟨rfl, hB3⟩
end Go.Proofs.YtnnnanemefcmdaaGreatDoor
