/- The walk of the program's Fits (layer 6). -/
import Derived.Test.YtcmdpablbadloaaDoorPWrt
import Derived.Test.YtcmdpablbadloaaDoorShownP
namespace Go.Proofs.YtcmdpablbadloaaDoor
open Go.RowKit

theorem cell_at3 {u : World} {b : Nat} {cs : Array Value} {t : TypeId} (h : u.heap[b]? = some (.cells cs t)) (j : Nat) (v : Value) (hv : cs[j]? = some v) : u.cell? ⟨b, j, none⟩ = some v := by
  simp [World.cell?, h, hv]
theorem fit_step {L : List UInt8} {A : List (Nat × Nat × List UInt8)} {k : Nat} {x : Nat × Nat × List UInt8} (h : A[k]? = some x) : (A.drop k).all (okX L) = (okX L x && (A.drop (k + 1)).all (okX L)) := by
  obtain ⟨hk, hb⟩ := List.getElem?_eq_some_iff.1 h
  rw [List.drop_eq_getElem_cons hk, hb, List.all_cons]
/-- Of the lines of a text: what stands on each, and its text behind the blanks. -/
theorem lns_beh (L : List UInt8) : ∀ (f p : Nat), ∀ x ∈ lns f (L.drop p) p, beh (rowOf L x) = x.2.2 := by
  intro f
  induction f with
  | zero => intro p x hx; cases hx
  | succ f ih =>
    intro p x hx
    rw [lns] at hx
    split at hx
    · cases hx
    · rcases List.mem_cons.1 hx with rfl | hx
      · have h2 := beh_le (row (L.drop p))
        unfold rowOf
        simp only
        rw [show (row (L.drop p)).length - (beh (row (L.drop p))).length + (beh (row (L.drop p))).length = (row (L.drop p)).length by omega, ← row_take]
      · rw [List.drop_drop] at hx
        exact ih (p + (row (L.drop p)).length + 1) x (by rw [show p + (row (L.drop p)).length + 1 = p + ((row (L.drop p)).length + 1) by omega]; exact hx)

set_option maxRecDepth 100000 in
set_option maxHeartbeats 4000000 in
theorem fits_bad (s : ByteArray) (w : World) (_hs : s.size ≤ 3000) (h : (cutB s).length < 2 ∨ bt s 0 = 10 ∨ bt s 0 = 32) :
    Calls Tryd.prog 10 #[.string s] w fun e w' => e = .returned (.bool false) ∧ Below w.heap.size w w' := by
  have hC := Tryd.strings_Contains_one s 10 w
  rcases lf_sp s.data.toList with ⟨h1, h2⟩ | ⟨h1, h2⟩
  · rw [decide_eq_true h1] at hC
    rw [← cutB_len_sp] at h2
    have h0 : 0 < s.size := by
      rcases Nat.eq_zero_or_pos s.size with e | e
      · have e2 : s.data.toList = [] := List.eq_nil_of_length_eq_zero (by simpa using e)
        rw [e2] at h1; exact absurd h1 (by decide)
      · exact e
    have hg0 := bt_get s 0 h0
    by_cases h32 : bt s 0 = 32
    · have q1 : ((s[0].toNat : Int) == 32) = true := by simp only [beq_iff_eq]; omega
      clear h1 h2 h hg0 h32
      go_enter Tryd.func10, Tryd.ntmps10
      go_wp2_with fail
      refine hC.mono ?_
      rintro e w' ⟨rfl, rfl⟩
      go_wp2
      go_ret
      exact ⟨rfl, Below.refl _ _⟩
    · have q1 : ((s[0].toNat : Int) == 32) = false := by simp only [beq_eq_false_iff_ne, ne_eq]; omega
      have q2 : ((s[0].toNat : Int) == 10) = true := by simp only [beq_iff_eq]; omega
      clear h1 h2 h hg0 h32
      go_enter Tryd.func10, Tryd.ntmps10
      go_wp2_with fail
      refine hC.mono ?_
      rintro e w' ⟨rfl, rfl⟩
      go_wp2
      go_ret
      exact ⟨rfl, Below.refl _ _⟩
  · rw [decide_eq_false h1] at hC
    clear h1 h2 h
    go_enter Tryd.func10, Tryd.ntmps10
    go_wp2_with fail
    refine hC.mono ?_
    rintro e w' ⟨rfl, rfl⟩
    go_wp2
    go_ret
    exact ⟨rfl, Below.refl _ _⟩

set_option maxRecDepth 100000 in
set_option maxHeartbeats 8000000 in
theorem fits_good (s : ByteArray) (w : World) (hs : s.size ≤ 3000) (hT : Lib.Utf8Tabs 0 1 w) (h : ¬ ((cutB s).length < 2 ∨ bt s 0 = 10 ∨ bt s 0 = 32)) :
    Calls Tryd.prog 10 #[.string s] w fun e w' => e = .returned (.bool (fitB shownB s)) ∧ Below w.heap.size w w' := by
  have hC := Tryd.strings_Contains_one s 10 w
  have HF := Lib.hid (fit_lines s h)
  have hlf : 0 ≤ Lib.indexByte s.data.toList 10 := by
    rcases lf_sp s.data.toList with ⟨h1, h2⟩ | ⟨h1, h2⟩
    · exact h1
    · rw [← cutB_len_sp] at h2; omega
  have h0 : 0 < s.size := by
    rcases Nat.eq_zero_or_pos s.size with e | e
    · have e2 : s.data.toList = [] := List.eq_nil_of_length_eq_zero (by simpa using e)
      rw [e2] at hlf; exact absurd hlf (by decide)
    · exact e
  rw [decide_eq_true hlf] at hC
  have hg0 := bt_get s 0 h0
  have q1 : ((s[0].toNat : Int) == 32) = false := by simp only [beq_eq_false_iff_ne, ne_eq]; omega
  have q2 : ((s[0].toNat : Int) == 10) = false := by simp only [beq_eq_false_iff_ne, ne_eq]; omega
  have HT := Lib.hid hT
  have HIN := Lib.hid (show ∀ x ∈ lns (s.size + 1) s.data.toList 0, x.1 + x.2.1 + x.2.2.length ≤ s.size from fun x hx => by
    have := lns_in s.data.toList (s.size + 1) 0 x (by simpa using hx)
    simpa using this)
  have HBE := Lib.hid (show ∀ x ∈ lns (s.size + 1) s.data.toList 0, beh (rowOf s.data.toList x) = x.2.2 from fun x hx => lns_beh s.data.toList (s.size + 1) 0 x (by simpa using hx))
  clear hlf h hg0 hT
  go_enter Tryd.func10, Tryd.ntmps10
  go_wp2_with fail
  refine hC.mono ?_
  rintro e w' ⟨rfl, rfl⟩
  go_wp2_with fail
  refine (lines_any s _ (by omega)).mono ?_
  rintro e w1 ⟨v, rfl, hown, hb1⟩
  obtain ⟨A, hA⟩ : ∃ A, lns (s.size + 1) s.data.toList 0 = A := ⟨_, rfl⟩
  rw [hA] at hown HIN HF HBE
  clear hA hC
  obtain ⟨r, g, cap, rfl, hg, hc⟩ := lines_at hown
  have HC := Lib.hid hc
  have hg1 : 0 < A.length → g < w1.heap.size := fun h => (hg h).2.2.1
  have hr1 : 0 < A.length → r = some ⟨g, 0, none⟩ := fun h => (hg h).1
  have hcp : 0 < A.length → A.length ≤ cap ∧ cap ≤ maxLen := fun h => ⟨(hg h).2.2.2.1, (hg h).2.2.2.2⟩
  have HG1 := Lib.hid hg1
  have HR1 := Lib.hid hr1
  have HCP := Lib.hid hcp
  have hw1 := hb1.size
  clear hown hc hg hg1 hr1 hcp
  go_wp2_with fail
  go_loopw [21] (fun j wr => ∃ k : Nat, j = .int .i64 k ∧ k ≤ A.length ∧ Hid (fitB shownB s = (A.drop k).all (okX s.data.toList)) ∧ Below w1.heap.size w1 wr) (fun j _ => A.length - (intOf j).toNat)
  case atStart => exact ⟨0, rfl, by omega, Lib.hid (by rw [HF.out]; rfl), Below.refl _ _⟩
  case round =>
    obtain ⟨k, rfl, hk, hF, hb2⟩ := hrel
    have hz := hb2.size
    by_cases hlt : k < A.length
    · obtain ⟨⟨p, q, T⟩, hx⟩ : ∃ x, A[k]? = some x := ⟨_, List.getElem?_eq_getElem hlt⟩
      have hgl := HG1.out (by omega)
      obtain ⟨hnc, hcm⟩ := HCP.out (by omega)
      obtain ⟨q0, q1, q2⟩ := (HC.out.keep hgl hb2) k _ hx
      simp only at q0 q1 q2
      have hin := HIN.out _ (List.mem_of_getElem? hx)
      simp only at hin
      have hbe := HBE.out _ (List.mem_of_getElem? hx)
      simp only at hbe
      have hR := ext_rowOf s (p, q, T)
      simp only at hR
      have hst := fit_step (L := s.data.toList) hx
      obtain ⟨R, hRR⟩ : ∃ R, rowOf s.data.toList (p, q, T) = R := ⟨_, rfl⟩
      rw [okX_eq s.data.toList p q T R hRR (by rw [← hRR]; exact hbe)] at hst
      have hRl : R.length ≤ s.size := by
        have : (rowOf s.data.toList (p, q, T)).length ≤ q + T.length := by unfold rowOf; exact List.length_take_le _ _
        rw [hRR] at this; omega
      rw [hRR] at hR
      have HST := Lib.hid hst
      have HRX := Lib.hid (show s.extract p (p + q + (⟨T.toArray⟩ : ByteArray).size) = ⟨R.toArray⟩ from hR)
      have HIX := Lib.hid (show p + q + (⟨T.toArray⟩ : ByteArray).size ≤ s.size from hin)
      have HTL := Lib.hid (show (⟨T.toArray⟩ : ByteArray).size ≤ 3000 by show T.length ≤ 3000; omega)
      have hsuf := Tryd.strings_HasSuffix ⟨R.toArray⟩ ⟨#[32]⟩
      obtain rfl := HR1.out (by omega)
      unfold maxLen at hcm
      have hB3 := hb2.alloc hz (.cells #[.int .i64 p, .int .i64 q, .string ⟨T.toArray⟩] 39)
      have hbox := heap_alloc_new wr (.cells #[.int .i64 p, .int .i64 q, .string ⟨T.toArray⟩] 39)
      have HSU := Lib.hid (show ∀ w, Calls Tryd.prog 21 #[.string ⟨R.toArray⟩, .string ⟨#[32]⟩] w fun e w' => e = .returned (.bool (Lib.hasSuffix R [32])) ∧ w' = w from fun w => hsuf w (by show R.length ≤ _; omega))
      have HBX := Lib.hid hbox
      clear hx hR hRR hin hbe hst hsuf hb2 hbox hRl
      have HTT := Lib.hid (Utf8Tabs_below HT.out (hb1.trans (hB3.mono hw1)))
      cases hv : shownB ⟨T.toArray⟩ with
      | false =>
        have HR := Lib.hid (show fitB shownB s = false by rw [hF.out, HST.out, hv]; rfl)
        have HV := Lib.hid hv
        clear hv
        go_wp2_with fail
        refine (shown_any ⟨T.toArray⟩ _ HTL.out HTT.out).mono ?_
        rintro e w3 ⟨rfl, hb3⟩
        rw [HV.out]
        have hB4 := hB3.trans (hb3.mono hB3.size)
        have hB := hb1.trans (hB4.mono hw1)
        clear hB3 hb3 hB4
        go_wp2
        go_ret
        exact ⟨by rw [HR.out]; rfl, hB⟩
      | true =>
        have HV := Lib.hid hv
        have HST2 := Lib.hid (show fitB shownB s = (!Lib.hasSuffix R [32] && (A.drop (k + 1)).all (okX s.data.toList)) by rw [hF.out, HST.out, hv]; rfl)
        clear hv
        go_wp2_with fail
        refine (shown_any ⟨T.toArray⟩ _ HTL.out HTT.out).mono ?_
        rintro e w3 ⟨rfl, hb3⟩
        rw [HV.out]
        have hB4 := hB3.trans (hb3.mono hB3.size)
        have hr3 := (hb3.block wr.heap.size (by simp)).trans HBX.out
        have c0 := cell_at3 hr3 0 _ rfl
        have c1 := cell_at3 hr3 1 _ rfl
        have c2 := cell_at3 hr3 2 _ rfl
        clear hB3 hb3 hr3 q0 q1 q2
        go_wp2_with fail
        refine (row_of s ⟨T.toArray⟩ p q R _ (by omega) HIX.out HRX.out).mono ?_
        rintro e w4 ⟨rfl, hb4⟩
        have hB5 := hB4.trans (hb4.mono hB4.size)
        clear hB4 hb4 c0 c1 c2
        go_wp2_with fail
        refine (HSU.out _).mono ?_
        rintro e w' ⟨rfl, hw'⟩
        subst hw'
        cases hh : Lib.hasSuffix R [32] with
        | true =>
          have HR := Lib.hid (show fitB shownB s = false by rw [HST2.out, hh]; rfl)
          have hB := hb1.trans (hB5.mono hw1)
          clear hh hB5
          go_wp2
          go_ret
          exact ⟨by rw [HR.out]; rfl, hB⟩
        | false =>
          have HN := Lib.hid (show fitB shownB s = (A.drop (k + 1)).all (okX s.data.toList) by rw [HST2.out, hh]; rfl)
          clear hh
          go_wp2
          go_roundw
          case rel => exact ⟨k + 1, by go_num, by omega, HN, hB5⟩
          case measure => simp [intOf]; omega
    · have HR := Lib.hid (show fitB shownB s = true by rw [hF.out, List.drop_eq_nil_of_le (by omega)]; rfl)
      have hB := hb1.trans (hb2.mono hw1)
      go_wp2
      go_ret
      exact ⟨by rw [HR.out]; rfl, hB⟩

theorem fits_any (s : ByteArray) (w : World) (hs : s.size ≤ 3000) (hT : Lib.Utf8Tabs 0 1 w) :
    Calls Tryd.prog 10 #[.string s] w fun e w' => e = .returned (.bool (fitB shownB s)) ∧ Below w.heap.size w w' := by
  by_cases h : (cutB s).length < 2 ∨ bt s 0 = 10 ∨ bt s 0 = 32
  · rw [fit_bad s h]; exact fits_bad s w hs h
  · exact fits_good s w hs hT h
end Go.Proofs.YtcmdpablbadloaaDoor
