/- The walk of LiteralWrites. -/
import Derived.Test.YtcmdpablbadloaaDoorAwake6
import Derived.Test.YtcmdpablbadloaaDoorRWrt
import Derived.Test.YtcmdpablbadloaaDoorRFit
namespace Go.Proofs.YtcmdpablbadloaaDoor
open Go.RowKit

/-- Where the rows of texts lie. -/
theorem rows_at {w : World} {base : Nat} {v : Value} {L : List ByteArray} (h : w.ownsRow base 9 1 v L.length (sv L)) :
    ∃ r g cap, v = .slice r L.length cap ∧ (0 < L.length → r = some ⟨g, 0, none⟩ ∧ L.length ≤ cap ∧ cap ≤ maxLen) ∧ ∀ j b, L[j]? = some b → w.cell? ⟨g, j, none⟩ = some (.string b) := by
  rcases Nat.eq_zero_or_pos L.length with h0 | h0
  · have hL : L = [] := List.eq_nil_of_length_eq_zero h0
    rcases h.2 with ⟨rfl, _⟩ | ⟨g, cap, cur, rfl, _⟩
    · exact ⟨none, 0, 0, by rw [h0], fun h => by omega, fun j b hj => by rw [hL] at hj; simp at hj⟩
    · exact ⟨_, g, cap, rfl, fun h => by omega, fun j b hj => by rw [hL] at hj; simp at hj⟩
  · obtain ⟨g, cap, rfl, hnc, hcm, _, _, hc⟩ := own_cellsS h h0
    exact ⟨_, g, cap, rfl, fun _ => ⟨rfl, hnc, hcm⟩, hc⟩
theorem wrB_len (n : Nat) (s : ByteArray) : (wrB n s).length ≤ s.size := by
  rw [← wrB_lines, List.length_map]
  have := lns_len s.data.toList (s.size + 1) 0
  simpa using this
theorem str_same (l : List UInt8) : ((⟨l.toArray⟩ : ByteArray).toList == (⟨l.toArray⟩ : ByteArray).toList) = true := by simp

set_option maxRecDepth 100000 in
set_option maxHeartbeats 8000000 in
theorem literalWrites_walk (s : ByteArray) (p : Int) (hs : s.size ≤ maxLen) (_hp : (Lit.int IntKind.i64 p).wf = true) (w : World) (hT : Lib.Utf8Tabs 0 1 w) :
    Calls Tryd.prog 4 #[.string s, .int .i64 p] w fun e w' => e = .returned (.bool true) ∧ Below w.heap.size w w' := by
  unfold maxLen at hs
  have HT := Lib.hid hT
  clear hT
  by_cases hl : 300 < s.size
  · go_enter Tryd.func4, Tryd.ntmps4
    go_wp2_with fail
    refine (awake6_any _ HT.out).mono ?_
    rintro e w1 ⟨rfl, hb⟩
    go_wp2
    go_ret
    exact ⟨rfl, hb⟩
  have hs3 : s.size ≤ 300 := by omega
  have hW1 := write_any s p w (by omega)
  have hW2 := fun w => refWrite_any s p w (by omega)
  have hRl := wrB_len (ind p) s
  obtain ⟨R, hR⟩ : ∃ R, wrB (ind p) s = R := ⟨_, rfl⟩
  obtain ⟨D, hD⟩ : ∃ D, hdN s = D := ⟨_, rfl⟩
  obtain ⟨fb, hfb⟩ : ∃ fb, fitB shownB s = fb := ⟨_, rfl⟩
  have hF1 := fun w hT => fits_any s w (by omega) hT
  have hF2 := fun w => refFits_shown s w (by omega)
  rw [hR, hD] at hW1
  simp only [hR, hD] at hW2
  simp only [hfb] at hF1 hF2
  rw [hR] at hRl
  have HW2 := Lib.hid hW2
  have HF1 := Lib.hid hF1
  have HF2 := Lib.hid hF2
  have HSD := Lib.hid (str_same D)
  clear hW2 hF1 hF2 hR hD hfb hl hs
  go_enter Tryd.func4, Tryd.ntmps4
  go_wp2_with fail
  refine hW1.mono ?_
  rintro e w1 ⟨v1, rfl, own1, hb1⟩
  go_wp2_with fail
  refine (HW2.out _).mono ?_
  rintro e w2 ⟨v2, rfl, own2, hb2⟩
  obtain ⟨r1, g1, c1, rfl, hr1, hc1⟩ := rows_at (own_below own1 hb2)
  obtain ⟨r2, g2, c2, rfl, hr2, hc2⟩ := rows_at own2
  have HR1 := Lib.hid hr1
  have HR2 := Lib.hid hr2
  have HC1 := Lib.hid hc1
  have HC2 := Lib.hid hc2
  have hB2 := hb1.trans (hb2.mono hb1.size)
  clear own1 own2 hr1 hr2 hc1 hc2 hb1 hb2 hW1
  go_wp2
  go_loopw [33] (fun j wr => ∃ k z : Nat, j = .int .i64 k ∧ k ≤ R.length ∧ Hid (wr = w2.drewN z)) (fun j _ => R.length - (intOf j).toNat)
  case atStart => exact ⟨0, 0, rfl, by omega, Lib.hid rfl⟩
  case round =>
    obtain ⟨k, z, rfl, hk, hz⟩ := hrel
    by_cases hlt : k < R.length
    · obtain ⟨b, hb⟩ : ∃ b, R[k]? = some b := ⟨_, List.getElem?_eq_getElem hlt⟩
      obtain ⟨rfl, hn1, hm1⟩ := HR1.out (by omega)
      obtain ⟨rfl, hn2, hm2⟩ := HR2.out (by omega)
      unfold maxLen at hm1 hm2
      have q1 : wr.cell? ⟨g1, k, none⟩ = some (.string b) := by rw [hz.out]; exact HC1.out k b hb
      have q2 : wr.cell? ⟨g2, k, none⟩ = some (.string b) := by rw [hz.out]; exact HC2.out k b hb
      clear hb
      go_wp2
      go_quiet (fail)
      go_wp2
      go_roundw
      case rel => exact ⟨k + 1, _, by go_num, by omega, Lib.hid (by rw [hz.out, World.drewN_drewN])⟩
      case measure => simp [intOf]; omega
    · have hB3 : Below w.heap.size w wr := by rw [hz.out]; exact bel_drewN hB2 z
      go_wp2_with fail
      refine (awake6_any _ (Utf8Tabs_below HT.out hB3)).mono ?_
      rintro e w4 ⟨rfl, hb4⟩
      have hB4 := hB3.trans (hb4.mono hB3.size)
      have hsd := HSD.out
      clear hb4 hB3 hz
      go_wp2_with fail
      refine (HF1.out _ (Utf8Tabs_below HT.out hB4)).mono ?_
      rintro e w5 ⟨rfl, hb5⟩
      have hB5 := hB4.trans (hb5.mono hB4.size)
      clear hb5 hB4
      go_wp2_with fail
      refine (HF2.out _).mono ?_
      rintro e w6 ⟨rfl, hb6⟩
      have hB6 := hB5.trans (hb6.mono hB5.size)
      clear hb6 hB5
      go_wp2
      refine bodyPost_ret (v := .bool true) (by simp [results, Tryd.results4, go_sem]) rfl ⟨rfl, hB6⟩
end Go.Proofs.YtcmdpablbadloaaDoor
