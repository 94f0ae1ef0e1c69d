/- The walk of the document's Fits (layer 6). -/
import Derived.Test.YtcmdpablbadloaaDoorFitP
import Derived.Test.YtcmdpablbadloaaDoorShownR
import Derived.Deep.QuietTactic
import Derived.BigQuiet
namespace Go.Proofs.YtcmdpablbadloaaDoor
open Go.RowKit

theorem fit_memF (s : ByteArray) (f : Nat) : ∀ i b, ∀ x ∈ cutF s f i b, x.size ≤ s.size := by
  induction f with
  | zero => intro i b x hx; cases hx
  | succ f ih =>
    intro i b x hx
    rw [cutF] at hx
    split at hx
    · split at hx
      · rcases List.mem_cons.1 hx with rfl | hx
        · rw [ByteArray.size_extract]; omega
        · exact ih _ _ _ hx
      · exact ih _ _ _ hx
    · cases hx
theorem fit_mem (s : ByteArray) : ∀ x ∈ cutB s, x.size ≤ s.size := fit_memF s _ 0 0

set_option maxRecDepth 100000 in
set_option maxHeartbeats 8000000 in
theorem refFits_any (s : ByteArray) (w : World) (hs : s.size ≤ 100000) (sh : ByteArray → Bool) (hSh : ∀ b ∈ cutB s, ∀ w, Calls Tryd.prog 22 #[.string b] w fun e w' => e = .returned (.bool (sh b)) ∧ ∃ n, w' = w.drewN n) :
    Calls Tryd.prog 11 #[.string s] w fun e w' => e = .returned (.bool (fitB sh s)) ∧ Below w.heap.size w w' := by
  have hcl := cutB_len s
  have hcp := cutB_pos s
  have hC := refCut_any s w hs
  have hBS := fit_mem s
  obtain ⟨L, hL⟩ : ∃ L, cutB s = L := ⟨_, rfl⟩
  have hF : fitB sh s = (!decide (L.length < 2 ∨ bt s 0 = 10 ∨ bt s 0 = 32) && L.all (okL sh)) := by unfold fitB; rw [hL]
  rw [hL] at hcl hcp hC hSh hBS
  have HBS := Lib.hid hBS
  have HF := Lib.hid hF
  clear hL hF hBS
  by_cases hbad : L.length < 2 ∨ bt s 0 = 10 ∨ bt s 0 = 32
  · have HR := Lib.hid (show fitB sh s = false by rw [HF.out, decide_eq_true hbad]; rfl)
    clear HF hSh
    by_cases h2 : L.length < 2
    · have d2 : decide ((L.length : Int) < 2) = true := decide_eq_true (by omega)
      clear hbad
      go_enter Tryd.func11, Tryd.ntmps11
      go_wp2_with fail
      refine hC.mono ?_
      rintro e w1 ⟨v, rfl, hown, hb⟩
      obtain ⟨g, cap, rfl, hnc, hcm, hg, hgl, hc⟩ := own_cellsS hown hcp
      clear hown hc
      go_wp2
      go_ret
      exact ⟨by rw [HR.out]; rfl, hb⟩
    · have d2 : decide ((L.length : Int) < 2) = false := decide_eq_false (by omega)
      have h0 : 0 < s.size := by omega
      have hg0 := bt_get s 0 h0
      by_cases h10 : bt s 0 = 10
      · have q1 : ((s[0].toNat : Int) == 10) = true := by simp only [beq_iff_eq]; omega
        clear hbad hg0 h10
        go_enter Tryd.func11, Tryd.ntmps11
        go_wp2_with fail
        refine hC.mono ?_
        rintro e w1 ⟨v, rfl, hown, hb⟩
        obtain ⟨g, cap, rfl, hnc, hcm, hg, hgl, hc⟩ := own_cellsS hown hcp
        clear hown hc
        go_wp2
        go_ret
        exact ⟨by rw [HR.out]; rfl, hb⟩
      · have q1 : ((s[0].toNat : Int) == 10) = false := by simp only [beq_eq_false_iff_ne, ne_eq]; omega
        have q2 : ((s[0].toNat : Int) == 32) = true := by simp only [beq_iff_eq]; omega
        clear hbad hg0 h10
        go_enter Tryd.func11, Tryd.ntmps11
        go_wp2_with fail
        refine hC.mono ?_
        rintro e w1 ⟨v, rfl, hown, hb⟩
        obtain ⟨g, cap, rfl, hnc, hcm, hg, hgl, hc⟩ := own_cellsS hown hcp
        clear hown hc
        go_wp2
        go_ret
        exact ⟨by rw [HR.out]; rfl, hb⟩
  · have h0 : 0 < s.size := by omega
    have hg0 := bt_get s 0 h0
    have d2 : decide ((L.length : Int) < 2) = false := decide_eq_false (by omega)
    have q1 : ((s[0].toNat : Int) == 10) = false := by simp only [beq_eq_false_iff_ne, ne_eq]; omega
    have q2 : ((s[0].toNat : Int) == 32) = false := by simp only [beq_eq_false_iff_ne, ne_eq]; omega
    have HF2 := Lib.hid (show fitB sh s = L.all (okL sh) by rw [HF.out, decide_eq_false hbad]; rfl)
    have HSH := Lib.hid hSh
    clear hbad hg0 HF hSh
    go_enter Tryd.func11, Tryd.ntmps11
    go_wp2_with fail
    refine hC.mono ?_
    rintro e w1 ⟨v, rfl, hown, hb⟩
    obtain ⟨g, cap, rfl, hnc, hcm, hg, hgl, hc⟩ := own_cellsS hown hcp
    have HC := Lib.hid hc
    clear hown hc
    go_wp2
    go_loopw [4] (fun j wr => ∃ i : Nat, j = .int .i64 i ∧ i ≤ L.length ∧ Hid (L.all (okL sh) = (L.drop i).all (okL sh)) ∧ Hid (SD w1 wr)) (fun j _ => L.length - (intOf j).toNat)
    case atStart => exact ⟨0, rfl, by omega, Lib.hid rfl, Lib.hid (SD.refl _)⟩
    case round =>
      obtain ⟨i, rfl, hil, hp, hsd⟩ := hrel
      by_cases hlt : i < L.length
      · obtain ⟨b, hbL⟩ : ∃ b, L[i]? = some b := ⟨_, List.getElem?_eq_getElem hlt⟩
        have hcell : wr.cell? ⟨g, i, none⟩ = some (.string b) := (hsd.out.cell _).trans (HC.out i b hbL)
        have hshb := HSH.out b (List.mem_of_getElem? hbL)
        have hdrop : (L.drop i).all (okL sh) = (okL sh b && (L.drop (i + 1)).all (okL sh)) := by
          obtain ⟨_, hb2⟩ := List.getElem?_eq_some_iff.1 hbL
          rw [List.drop_eq_getElem_cons hlt, hb2, List.all_cons]
        have HD := Lib.hid hdrop
        have HBL := Lib.hid hbL
        clear hdrop hbL
        cases hv : sh b with
        | false =>
          rw [hv] at hshb
          have HR := Lib.hid (show fitB sh s = false by rw [HF2.out, hp.out, HD.out]; simp [okL, hv])
          clear hv hp HD
          go_wp2_with fail
          go_quiet ((go_at_call 22; exact Calls.quiet_of (hshb _)))
          go_wp2
          go_ret
          exact ⟨by rw [HR.out]; rfl, (hsd.out.drewN _).below hb⟩
        | true =>
          rw [hv] at hshb
          by_cases hz : b.size = 0
          · have HP := Lib.hid (show L.all (okL sh) = (L.drop (i + 1)).all (okL sh) by rw [hp.out, HD.out]; simp [okL, hv, hz])
            have z1 : decide (0 < b.size) = false := decide_eq_false (by omega)
            clear hv hp HD hz
            go_wp2_with fail
            go_quiet ((go_at_call 22; exact Calls.quiet_of (hshb _)))
            go_wp2
            go_roundw
            case rel => exact ⟨i + 1, by go_num, by omega, HP, Lib.hid (hsd.out.drewN _)⟩
            case measure => simp [intOf]; omega
          · have hz0 : 0 < b.size := by omega
            have hl : b.size - 1 < b.size := by omega
            have z1 : decide (0 < b.size) = true := decide_eq_true hz0
            have hbg := bt_get b (b.size - 1) hl
            have hbz := HBS.out b (List.mem_of_getElem? HBL.out)
            have x1 : IntKind.i64.wrap ((b.size : Int) - 1) = (b.size : Int) - 1 := by rw [IntKind.wrap_i64]; omega
            have x2 : (0 : Int) ≤ (b.size : Int) - 1 := by omega
            have x3 : ((b.size : Int) - 1).toNat = b.size - 1 := by omega
            have x4 : (b.size : Int) - 1 < (b.size : Int) := by omega
            have x6 : (1 : Int) ≤ (b.size : Int) := by omega
            have x7 : 1 ≤ b.size := by omega
            by_cases h32 : bt b (b.size - 1) = 32
            · have HR := Lib.hid (show fitB sh s = false by rw [HF2.out, hp.out, HD.out]; simp [okL, hv, hz0, h32])
              have z2 : ((b[b.size - 1].toNat : Int) == 32) = true := by simp only [beq_iff_eq]; omega
              clear hv hp HD hz h32 hbg hbz
              go_wp2_with fail
              go_quiet ((go_at_call 22; exact Calls.quiet_of (hshb _)))
              go_wp2
              go_ret
              exact ⟨by rw [HR.out]; rfl, (hsd.out.drewN _).below hb⟩
            · have HP := Lib.hid (show L.all (okL sh) = (L.drop (i + 1)).all (okL sh) by rw [hp.out, HD.out]; simp [okL, hv, h32])
              have z2 : ((b[b.size - 1].toNat : Int) == 32) = false := by simp only [beq_eq_false_iff_ne, ne_eq]; omega
              clear hv hp HD hz h32 hbg hbz
              go_wp2_with fail
              go_quiet ((go_at_call 22; exact Calls.quiet_of (hshb _)))
              go_wp2
              go_roundw
              case rel => exact ⟨i + 1, by go_num, by omega, HP, Lib.hid (hsd.out.drewN _)⟩
              case measure => simp [intOf]; omega
      · have HR := Lib.hid (show fitB sh s = true by rw [HF2.out, hp.out, List.drop_eq_nil_of_le (by omega)]; rfl)
        have hB := hsd.out.below hb
        go_wp2
        go_ret
        exact ⟨by rw [HR.out]; rfl, hB⟩
theorem refFits_shown (s : ByteArray) (w : World) (hs : s.size ≤ 3000) :
    Calls Tryd.prog 11 #[.string s] w fun e w' => e = .returned (.bool (fitB shownB s)) ∧ Below w.heap.size w w' :=
  refFits_any s w (by omega) shownB fun b hb w => refShown_any b w (by have := fit_mem s b hb; omega)
end Go.Proofs.YtcmdpablbadloaaDoor
