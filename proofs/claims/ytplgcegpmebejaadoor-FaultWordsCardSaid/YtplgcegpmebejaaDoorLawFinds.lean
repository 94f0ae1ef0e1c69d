/- The walk of FaultFinds. -/
import Derived.Test.YtplgcegpmebejaaDoorWayAll
namespace Go.Proofs.YtplgcegpmebejaaDoor
open Go.RowKit Go.Extern.Stop Go.Stop Go.Extern

theorem ArgW.keep {r : Option Addr} {n : Nat} {W : Nat → ByteArray} {w w' : World} (h : ArgW r n W w) (hb : Below w.heap.size w w') : ArgW r n W w' := by
  intro k hk
  obtain ⟨a, hr, hl, hc⟩ := h k hk
  exact ⟨a, hr, Nat.lt_of_lt_of_le hl hb.size, by rw [hb.cell (p := a.add k) hl]; exact hc⟩
theorem ArgI.keep {r : Option Addr} {n : Nat} {I : Nat → Int} {w w' : World} (h : ArgI r n I w) (hb : Below w.heap.size w w') : ArgI r n I w' := by
  intro k hk
  obtain ⟨a, hr, hl, hc⟩ := h k hk
  exact ⟨a, hr, Nat.lt_of_lt_of_le hl hb.size, by rw [hb.cell (p := a.add k) hl]; exact hc⟩
/-- The five cells of a way's box. -/
def Box5 (b : Nat) (v0 v1 v2 v3 v4 : Value) (w : World) : Prop := (w.cell? ⟨b, 0, none⟩ = some v0 ∧ w.cell? ⟨b, 1, none⟩ = some v1 ∧ w.cell? ⟨b, 2, none⟩ = some v2 ∧ w.cell? ⟨b, 3, none⟩ = some v3 ∧ w.cell? ⟨b, 4, none⟩ = some v4) ∧ b < w.heap.size
theorem Box5.keep {b : Nat} {v0 v1 v2 v3 v4 : Value} {w w' : World} (h : Box5 b v0 v1 v2 v3 v4 w) (hb : Below w.heap.size w w') : Box5 b v0 v1 v2 v3 v4 w' := by
  obtain ⟨⟨h0, h1, h2, h3, h4⟩, h5⟩ := h
  have := hb.size
  refine ⟨⟨?_, ?_, ?_, ?_, ?_⟩, by omega⟩
  · rw [hb.cell (p := ⟨b, 0, none⟩) h5]; exact h0
  · rw [hb.cell (p := ⟨b, 1, none⟩) h5]; exact h1
  · rw [hb.cell (p := ⟨b, 2, none⟩) h5]; exact h2
  · rw [hb.cell (p := ⟨b, 3, none⟩) h5]; exact h3
  · rw [hb.cell (p := ⟨b, 4, none⟩) h5]; exact h4
theorem Box5.start (w : World) (v0 v1 v2 v3 v4 : Value) (t : TypeId) : Box5 w.heap.size v0 v1 v2 v3 v4 (w.alloc (.cells #[v0, v1, v2, v3, v4] t)) := ⟨⟨by simp, by simp, by simp, by simp, by simp⟩, by simp⟩

set_option maxRecDepth 100000 in
set_option maxHeartbeats 8000000 in
theorem faultFinds_walk (r r' : Option Addr) (n c n' c' : Nat) (e : Nat) (cd a : Int) (W : Nat → ByteArray) (I : Nat → Int) (hn : n ≤ maxLen) (hn' : n' ≤ maxLen) (he : e < 256) (w : World) (hW : ArgW r n W w) (hI : ArgI r' n' I w) (hg : ErrVar w) :
    Calls Tryd.prog 3 #[.agg #[.slice r n c, .slice r' n' c', .int .u8 e, .int .i64 cd, .int .i64 a]] w fun x w' => x = .returned (.bool true) ∧ Below w.heap.size w w' := by
  unfold maxLen at hn hn'
  have HW := Lib.hid hW
  have HI := Lib.hid hI
  have HG := Lib.hid hg
  have hB0 : Below w.heap.size w (w.alloc (.cells #[.slice r n c, .slice r' n' c', .int .u8 e, .int .i64 cd, .int .i64 a] 25)) := (Below.refl _ _).alloc (Nat.le_refl _) _
  have hx0 := Box5.start w (.slice r n c) (.slice r' n' c') (.int .u8 e) (.int .i64 cd) (.int .i64 a) 25
  have HX0 := Lib.hid hx0
  have HB0 := Lib.hid hB0
  clear hW hI hg hB0 hx0
  go_enter Tryd.func3, Tryd.ntmps3
  go_wp2_with fail
  refine (few_any r r' n c n' c' e cd a _ (by omega)).mono ?_
  rintro x w1 ⟨rfl, hb⟩
  have hB1 := HB0.out.trans (hb.mono HB0.out.size)
  have hx1 := HX0.out.keep hb
  have hg1 := Lib.hid (HG.out.below hB1 HG.out.pos)
  have hB := Lib.hid hB1
  clear hb HB0 HX0
  by_cases h60 : n ≤ 60
  · rw [decide_eq_true h60]
    obtain ⟨⟨x0, x1, x2, x3, x4⟩, x5⟩ := hx1
    clear hB1
    go_wp2_with fail
    refine (of_any r r' n c n' c' e cd a W I _ h60 (by omega) he (HW.out.keep hB.out) (HI.out.keep hB.out)).mono ?_
    rintro x w2 ⟨q, q', g, h, d, d', N, hN, rfl, hq, hR, hb2⟩
    clear x0 x1 x2 x3 x4 x5
    have hB2 := Lib.hid (hB.out.trans (hb2.mono hB.out.size))
    have HN := Lib.hid hN
    have HQ := Lib.hid hq
    have HR := Lib.hid hR
    have hl := LL_le W I n' n e a
    have hN1 : N ≤ 1000 := by omega
    generalize hLL : LL W I n' n e a = L at *
    have HLL := Lib.hid hLL
    have hg2 := Lib.hid (hg1.out.below hb2 hg1.out.pos)
    clear hN hq hR hb2 hLL hl
    have hm := Box5.start w2 (.slice q N d) (.slice q' N d') (.int .i64 ((e : Int) % 3)) (.int .i64 cd) (.int .i64 a) 29
    have hb3 : Below w2.heap.size w2 (w2.alloc (.cells #[.slice q N d, .slice q' N d', .int .i64 ((e : Int) % 3), .int .i64 cd, .int .i64 a] 29)) := (Below.refl _ _).alloc (Nat.le_refl _) _
    have HM := Lib.hid hm
    have HB3 := Lib.hid hb3
    clear hm hb3
    go_wp2_with fail
    refine (refOf_any e cd a L q q' g h d d' N HN.out hN1 HQ.out _ (fun hp => (HR.out hp).keep HB3.out)).mono ?_
    rintro x w4 ⟨rfl, hb4⟩
    have hB4 := Lib.hid (HB3.out.trans (hb4.mono HB3.out.size))
    have hm4 := Lib.hid (HM.out.keep hb4)
    have hg4 := Lib.hid (hg2.out.below hB4.out hg2.out.pos)
    generalize hofr : ofr e cd a L = o at *
    have HO := Lib.hid hofr
    clear hofr
    obtain ⟨o1, o2⟩ := o
    clear hb4 HB3 HM
    go_wp2_with fail
    refine (awake_any _ hg4.out).mono ?_
    rintro x w5 ⟨rfl, hb5⟩
    have hB5 := Lib.hid (hB4.out.trans (hb5.mono hB4.out.size))
    have hm5 := hm4.out.keep hb5
    have hg5 := Lib.hid (hg4.out.below hb5 hg4.out.pos)
    obtain ⟨⟨y0, y1, y2, y3, y4⟩, y5⟩ := hm5
    clear hb5 hB4 hg4
    go_wp2_with fail
    refine (way_any W I n' n e cd a h60 q q' g h d d' N (by rw [HLL.out]; exact HN.out) HQ.out _ (fun hp => by rw [HLL.out]; exact (HR.out hp).keep hB5.out)).mono ?_
    rintro x w6 ⟨rfl, hb6⟩
    rw [HLL.out]
    have hB6 := Lib.hid (hB5.out.trans (hb6.mono hB5.out.size))
    have hg6 := Lib.hid (hg5.out.below hb6 hg5.out.pos)
    obtain ⟨u, v, hform⟩ := way_form e cd a L (fun h0 => by rw [← HLL.out]; exact LL_ne h0)
    have HF := Lib.hid hform
    rw [hform]
    clear hb6 hB5 hg5 hform y0 y1 y2 y3 y4 y5
    go_wp2_with fail
    have hcall := faultOf_any e cd a L (by rw [← HN.out]; exact hN1) (fun h0 => by rw [← HLL.out]; exact LL_ne h0) w6 hg6.out
    rw [HF.out, HO.out] at hcall
    refine hcall.mono ?_
    rintro x w7 ⟨rfl, hb7⟩
    have hB7 := hB2.out.trans ((hB6.out.trans (hb7.mono hB6.out.size)).mono hB2.out.size)
    have t1 : ((o1 : Int) == o1) = true := by simp
    have t2 : ((o2 : Int) == o2) = true := by simp
    clear hcall hb7
    go_wp2
    go_ret
    exact ⟨rfl, hB7⟩
  · rw [decide_eq_false h60]
    clear hx1
    go_wp2_with fail
    refine (awake_any _ hg1.out).mono ?_
    rintro x w2 ⟨rfl, hb2⟩
    have hB2 := hB.out.trans (hb2.mono hB.out.size)
    go_wp2
    go_ret
    exact ⟨rfl, hB2⟩
end Go.Proofs.YtplgcegpmebejaaDoor
