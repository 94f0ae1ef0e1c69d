/- The walk of FaultWords. -/
import Derived.Test.YtplgcegpmebejaaDoorLawFinds
namespace Go.Proofs.YtplgcegpmebejaaDoor
open Go.RowKit Go.Extern.Stop Go.Stop Go.Extern

set_option maxHeartbeats 1000000 in
theorem words_zero (e : Nat) (cd a : Int) (he : e % 3 ≠ 0) (w : World) :
    Calls Tryd.prog 13 #[wv (endv e cd a) []] w fun x w' => ∃ r cap, x = .returned (.slice r 0 cap) ∧ Below w.heap.size w w' := by
  obtain ⟨u, v, hform⟩ := way_form e cd a [] (fun h => absurd h he)
  have HF := Lib.hid hform
  rw [hform]
  clear hform
  go_enter Tryd.func13, Tryd.ntmps13
  go_wp2_with fail
  have hcall := steps_any (endv e cd a) (end_v e cd a) [] (by simp) w
  rw [HF.out] at hcall
  refine hcall.mono ?_
  rintro x w' ⟨v, rfl, hown, hb⟩
  obtain ⟨r, cap, rfl⟩ := own_none hown
  clear hown hcall
  go_wp2
  refine wp_loop_rounds 1 ?_
  rw [rounds_succ]
  go_wp2
  go_ret
  exact ⟨_, _, rfl, hb⟩

set_option maxRecDepth 100000 in
set_option maxHeartbeats 8000000 in
theorem faultWords_walk (r r' : Option Addr) (n c n' c' : Nat) (e : Nat) (cd a : Int) (W : Nat → ByteArray) (I : Nat → Int) (hn : n ≤ maxLen) (hn' : n' ≤ maxLen) (he : e < 256) (w : World) (hW : ArgW r n W w) (hI : ArgI r' n' I w) (hg : ErrVar w) :
    Calls Tryd.prog 4 #[.agg #[.slice r n c, .slice r' n' c', .int .u8 e, .int .i64 cd, .int .i64 a]] w fun x w' => x = .returned (.bool true) ∧ Below w.heap.size w w' := by
  unfold maxLen at hn hn'
  have HW := Lib.hid hW
  have HI := Lib.hid hI
  have HG := Lib.hid hg
  have hB0 : Below w.heap.size w (w.alloc (.cells #[.slice r n c, .slice r' n' c', .int .u8 e, .int .i64 cd, .int .i64 a] 25)) := (Below.refl _ _).alloc (Nat.le_refl _) _
  have hx0 := Box5.start w (.slice r n c) (.slice r' n' c') (.int .u8 e) (.int .i64 cd) (.int .i64 a) 25
  have HX0 := Lib.hid hx0
  have HB0 := Lib.hid hB0
  clear hW hI hg hB0 hx0
  go_enter Tryd.func4, Tryd.ntmps4
  go_wp2_with fail
  refine (few_any r r' n c n' c' e cd a _ (by omega)).mono ?_
  rintro x w1 ⟨rfl, hb⟩
  have hB1 := HB0.out.trans (hb.mono HB0.out.size)
  have hx1 := HX0.out.keep hb
  have hg1 := Lib.hid (HG.out.below hB1 HG.out.pos)
  have hB := Lib.hid hB1
  clear hb HB0 HX0
  by_cases h60 : n ≤ 60
  · rw [decide_eq_true h60]
    obtain ⟨⟨x0, x1, x2, x3, x4⟩, x5⟩ := hx1
    clear hB1
    go_wp2_with fail
    refine (of_any r r' n c n' c' e cd a W I _ h60 (by omega) he (HW.out.keep hB.out) (HI.out.keep hB.out)).mono ?_
    rintro x w2 ⟨q, q', g, h, d, d', N, hN, rfl, hq, hR, hb2⟩
    clear x0 x1 x2 x3 x4 x5
    have hB2 := Lib.hid (hB.out.trans (hb2.mono hB.out.size))
    have HN := Lib.hid hN
    have HQ := Lib.hid hq
    have HR := Lib.hid hR
    have hl := LL_le W I n' n e a
    have hN1 : N ≤ 1000 := by omega
    generalize hLL : LL W I n' n e a = L at *
    have HLL := Lib.hid hLL
    have hg2 := Lib.hid (hg1.out.below hb2 hg1.out.pos)
    clear hN hq hR hb2 hLL hl
    have hm := Box5.start w2 (.slice q N d) (.slice q' N d') (.int .i64 ((e : Int) % 3)) (.int .i64 cd) (.int .i64 a) 29
    have hb3 : Below w2.heap.size w2 (w2.alloc (.cells #[.slice q N d, .slice q' N d', .int .i64 ((e : Int) % 3), .int .i64 cd, .int .i64 a] 29)) := (Below.refl _ _).alloc (Nat.le_refl _) _
    have HM := Lib.hid hm
    have HB3 := Lib.hid hb3
    clear hm hb3
    go_wp2_with fail
    refine (way_any W I n' n e cd a h60 q q' g h d d' N (by rw [HLL.out]; exact HN.out) HQ.out _ (fun hp => by rw [HLL.out]; exact (HR.out hp).keep HB3.out)).mono ?_
    rintro x w4 ⟨rfl, hb4⟩
    rw [HLL.out]
    have hB4 := Lib.hid (HB3.out.trans (hb4.mono HB3.out.size))
    have hm4 := Lib.hid (HM.out.keep hb4)
    have hg4 := Lib.hid (hg2.out.below hB4.out hg2.out.pos)
    obtain ⟨u, v, hform⟩ := way_form e cd a L (fun h0 => by rw [← HLL.out]; exact LL_ne h0)
    have HF := Lib.hid hform
    have hL1 : L.length ≤ 1000 := by rw [← HN.out]; exact hN1
    rw [hform]
    clear hb4 HB3 HM hform
    by_cases h0 : 0 < N
    · have hne : 0 < L.length := by rw [← HN.out]; exact h0
      go_wp2_with fail
      have hcall := words_any (endv e cd a) (end_v e cd a) L hL1 hne w4
      rw [HF.out] at hcall
      refine hcall.mono ?_
      rintro x w5 ⟨v5, rfl, hown, hb5⟩
      obtain ⟨g5, cap5, rfl, hnc, hcm, hgg, hgl, hc5⟩ := own_cells hown hne
      have HC := Lib.hid hc5
      have hB5 := Lib.hid (hB4.out.trans (hb5.mono hB4.out.size))
      have hm5 := hm4.out.keep hb5
      have hg5 := Lib.hid (hg4.out.below hb5 hg4.out.pos)
      have hNL : L.length = N := HN.out.symm
      rw [hNL] at hnc ⊢
      have HNL := Lib.hid hNL
      obtain ⟨⟨y0, y1, y2, y3, y4⟩, y5⟩ := id hm5
      have HM5 := Lib.hid hm5
      have t3 : ((N : Int) != (N : Int)) = false := by simp
      unfold maxLen at hcm
      clear hcall hown hc5 hb5 hB4 hm4 hg4 hNL hm5
      go_wp2_with fail
      have hcall := depth_any (endv e cd a) (end_v e cd a) L hL1 w5
      rw [HF.out, HNL.out] at hcall
      refine hcall.mono ?_
      rintro x w6 ⟨rfl, hb6⟩
      have hB6 := Lib.hid (hB5.out.trans (hb6.mono hB5.out.size))
      have hm6 := HM5.out.keep hb6
      have hg6 := Lib.hid (hg5.out.below hb6 hg5.out.pos)
      obtain ⟨rfl, rfl⟩ : q = some ⟨g, 0, none⟩ ∧ q' = some ⟨h, 0, none⟩ := HQ.out.resolve_left (by omega)
      have hrow := (HR.out h0).keep hB6.out
      have hr5 : ∀ j u, (wordsOf L)[j]? = some u → w6.cell? ⟨g5, j, none⟩ = some u := fun j u hj => by rw [hb6.cell (p := ⟨g5, j, none⟩) hgl]; exact HC.out j u hj
      have HR5 := Lib.hid hr5
      have HROW := Lib.hid hrow
      have HM6 := Lib.hid hm6
      clear y0 y1 y2 y3 y4 y5 hcall hb6 hB5 HM5 hg5 HC hrow hr5 hm6
      go_wp2
      go_loopw [32] (fun i wr => ∃ (k z : Nat), i = .int .i64 k ∧ k ≤ N ∧ Hid (wr = w6.drewN z)) (fun i _ => N - (intOf i).toNat)
      case atStart => exact ⟨0, 0, rfl, by omega, Lib.hid rfl⟩
      case round =>
        obtain ⟨k, z, rfl, hk, hwr⟩ := hrel
        by_cases hlt : k < N
        · obtain ⟨s, hs⟩ : ∃ s, L[k]? = some s := ⟨_, List.getElem?_eq_getElem (by rw [HNL.out]; exact hlt)⟩
          have d1 : wr.cell? ⟨g5, k, none⟩ = some (.string s.1) := by rw [hwr.out]; exact HR5.out k _ (by unfold wordsOf; rw [List.getElem?_map, hs]; rfl)
          have d2 : wr.cell? ⟨g, k, none⟩ = some (.string s.1) := by rw [hwr.out]; exact (HROW.out.2.2 k s hs).1
          have d3 : wr.cell? ⟨w2.heap.size, 0, none⟩ = some (.slice (some ⟨g, 0, none⟩) N d) := by rw [hwr.out]; exact HM6.out.1.1
          have y1 : (0 : Int) ≤ (k : Int) := by omega
          have y2 : (k : Int) < (N : Int) := by omega
          have t1 : (s.1.data.toList == s.1.data.toList) = true := by simp
          have t2 : (s.1.data.toList != s.1.data.toList) = false := by simp
          clear hs
          go_wp2_with fail
          go_quiet (fail)
          go_wp2
          go_roundw
          case rel => exact ⟨k + 1, _, by go_num, by omega, Lib.hid (by rw [hwr.out]; simp; rfl)⟩
          case measure => simp [intOf]; omega
        · have hB6' : Below w2.heap.size w2 wr := by rw [hwr.out]; exact bel_drewN hB6.out z
          have hg6' : ErrVar wr := by rw [hwr.out]; exact hg6.out
          have HB6' := Lib.hid hB6'
          have HG6' := Lib.hid hg6'
          clear hB6' hg6'
          go_wp2_with fail
          refine (awake_any _ HG6'.out).mono ?_
          rintro x w7 ⟨rfl, hb7⟩
          have hB7 := hB2.out.trans ((HB6'.out.trans (hb7.mono HB6'.out.size)).mono hB2.out.size)
          go_wp2
          go_ret
          exact ⟨rfl, hB7⟩
    · obtain rfl : N = 0 := by omega
      obtain rfl : L = [] := List.eq_nil_of_length_eq_zero HN.out.symm
      have h3 : e % 3 ≠ 0 := fun h3 => LL_ne h3 HLL.out
      go_wp2_with fail
      have hcall := words_zero e cd a h3 w4
      rw [HF.out] at hcall
      refine hcall.mono ?_
      rintro x w5 ⟨r5, cap5, rfl, hb5⟩
      have hB5 := Lib.hid (hB4.out.trans (hb5.mono hB4.out.size))
      have hm5 := hm4.out.keep hb5
      have hg5 := Lib.hid (hg4.out.below hb5 hg4.out.pos)
      obtain ⟨⟨y0, y1, y2, y3, y4⟩, y5⟩ := id hm5
      clear hcall hb5 hB4 hm4 hg4 hm5
      go_wp2_with fail
      have hcall := depth_any (endv e cd a) (end_v e cd a) [] (by simp) w5
      rw [HF.out] at hcall
      refine hcall.mono ?_
      rintro x w6 ⟨rfl, hb6⟩
      rw [show ((([] : List (ByteArray × Int)).length : Nat) : Int) = 0 from rfl]
      have hB6 := Lib.hid (hB5.out.trans (hb6.mono hB5.out.size))
      have hg6 := Lib.hid (hg5.out.below hb6 hg5.out.pos)
      clear y0 y1 y2 y3 y4 y5 hcall hb6 hB5 hg5
      go_wp2
      refine wp_loop_rounds 1 ?_
      rw [rounds_succ]
      go_wp2_with fail
      refine (awake_any _ hg6.out).mono ?_
      rintro x w7 ⟨rfl, hb7⟩
      have hB7 := hB2.out.trans ((hB6.out.trans (hb7.mono hB6.out.size)).mono hB2.out.size)
      go_wp2
      go_ret
      exact ⟨rfl, hB7⟩
  · rw [decide_eq_false h60]
    clear hx1
    go_wp2_with fail
    refine (awake_any _ hg1.out).mono ?_
    rintro x w2 ⟨rfl, hb2⟩
    have hB2 := hB.out.trans (hb2.mono hB.out.size)
    go_wp2
    go_ret
    exact ⟨rfl, hB2⟩
end Go.Proofs.YtplgcegpmebejaaDoor
