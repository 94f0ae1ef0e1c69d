/- The walk of FaultIs. -/
import Derived.Test.YtplgcegpmebejaaDoorLawFinds
import Derived.Test.YtplgcegpmebejaaDoorIs
import Derived.Deep.RegionHeld3
namespace Go.Proofs.YtplgcegpmebejaaDoor
open Go.RowKit Go.Extern.Stop Go.Stop Go.Extern

theorem isCh_end (m : Int) (e : Nat) (cd a : Int) (L : List (ByteArray × Int)) (hne : e % 3 = 0 → L ≠ []) : IsCh m (wv (endv e cd a) L) (decide ((0 : Int) < (e : Int) % 3) && (cd == m)) := by
  rcases three e with ⟨h1, h2⟩ | ⟨h1, h2⟩ | ⟨h1, h2⟩
  · rw [h2, show endv e cd a = .nilIface by simp [endv, h1]]
    simpa using isCh_nil m L (hne h1)
  · rw [h2, show endv e cd a = faultV cd a by simp [endv, h1]]
    simpa using isCh_fault m cd a L
  · rw [h2, show endv e cd a = numV cd by simp [endv, h1]]
    simpa using isCh_num m cd L
theorem awake_keepB {w : World} {b : Nat} {v0 v1 : Value} {E cd a : Int} (hg : ErrVar w) (W : World) (hS : BoxAt w b v0 v1 E cd a W) :
    Calls Tryd.prog 8 #[] W fun x w' => x = .returned (.bool true) ∧ BoxAt w b v0 v1 E cd a w' :=
  (awake_any W (hg.below hS.2.2.2.2.2.2 hg.pos)).mono fun _ _ ⟨h1, h2⟩ => ⟨h1, hS.keep h2⟩
theorem is_keepB {w : World} {b : Nat} {v0 v1 : Value} {E cd a : Int} (m : Int) (x : Value) (r : Bool) (hx : IsCh m x r) (W : World) (hS : BoxAt w b v0 v1 E cd a W) :
    Calls Tryd.prog 15 #[x, .int .i64 m] W fun e w' => e = .returned (.bool r) ∧ BoxAt w b v0 v1 E cd a w' :=
  (faultIs_any m x r hx W).mono fun _ _ ⟨h1, h2⟩ => ⟨h1, hS.keep h2⟩
theorem refIs_keepB {w : World} {b : Nat} {v0 v1 : Value} {E cd a : Int} (r r' : Option Addr) (n c n' c' : Nat) (m : Int) (bb : Bool) (hb : (decide (0 < E) && (cd == m)) = bb) (he : E = 0 ∨ E = 1 ∨ E = 2) (W : World) (hS : BoxAt w b v0 v1 E cd a W) :
    Calls Tryd.prog 16 #[.agg #[.slice r n c, .slice r' n' c', .int .i64 E, .int .i64 cd, .int .i64 a], .int .i64 m] W fun x w' => x = .returned (.bool bb) ∧ BoxAt w b v0 v1 E cd a w' :=
  (refIs_any r r' n c n' c' E cd a m W he).mono fun _ _ ⟨h1, h2⟩ => ⟨by rw [h1, hb], hS.keep h2⟩

set_option maxRecDepth 100000 in
set_option maxHeartbeats 8000000 in
theorem faultIs_walk (r r' : Option Addr) (n c n' c' : Nat) (e : Nat) (cd a : Int) (m : Int) (W : Nat → ByteArray) (I : Nat → Int) (_hm : (Lit.int .i64 m).wf = true) (hn : n ≤ maxLen) (hn' : n' ≤ maxLen) (he : e < 256) (w : World) (hW : ArgW r n W w) (hI : ArgI r' n' I w) (hg : ErrVar w) :
    Calls Tryd.prog 5 #[.agg #[.slice r n c, .slice r' n' c', .int .u8 e, .int .i64 cd, .int .i64 a], .int .i64 m] w fun x w' => x = .returned (.bool true) ∧ Below w.heap.size w w' := by
  unfold maxLen at hn hn'
  have HW := Lib.hid hW
  have HI := Lib.hid hI
  have HG := Lib.hid hg
  have hB0 : Below w.heap.size w (w.alloc (.cells #[.slice r n c, .slice r' n' c', .int .u8 e, .int .i64 cd, .int .i64 a] 25)) := (Below.refl _ _).alloc (Nat.le_refl _) _
  have hx0 := Box5.start w (.slice r n c) (.slice r' n' c') (.int .u8 e) (.int .i64 cd) (.int .i64 a) 25
  have HX0 := Lib.hid hx0
  have HB0 := Lib.hid hB0
  clear hW hI hg hB0 hx0
  go_enter Tryd.func5, Tryd.ntmps5
  go_wp2_with fail
  refine (few_any r r' n c n' c' e cd a _ (by omega)).mono ?_
  rintro x w1 ⟨rfl, hb⟩
  have hB1 := HB0.out.trans (hb.mono HB0.out.size)
  have hx1 := HX0.out.keep hb
  have hg1 := Lib.hid (HG.out.below hB1 HG.out.pos)
  have hB := Lib.hid hB1
  clear hb HB0 HX0
  by_cases h60 : n ≤ 60
  · rw [decide_eq_true h60]
    obtain ⟨⟨x0, x1, x2, x3, x4⟩, x5⟩ := hx1
    clear hB1
    go_wp2_with fail
    refine (of_any r r' n c n' c' e cd a W I _ h60 (by omega) he (HW.out.keep hB.out) (HI.out.keep hB.out)).mono ?_
    rintro x w2 ⟨q, q', g, h, d, d', N, hN, rfl, hq, hR, hb2⟩
    clear x0 x1 x2 x3 x4 x5
    have hB2 := Lib.hid (hB.out.trans (hb2.mono hB.out.size))
    have HN := Lib.hid hN
    have HQ := Lib.hid hq
    have HR := Lib.hid hR
    generalize hLL : LL W I n' n e a = L at *
    have HLL := Lib.hid hLL
    have hg2 := Lib.hid (hg1.out.below hb2 hg1.out.pos)
    have hI3 := Lib.hid (show ((e : Int) % 3) = 0 ∨ ((e : Int) % 3) = 1 ∨ ((e : Int) % 3) = 2 by omega)
    have hC1 := Lib.hid (isCh_end m e cd a L (fun h0 => by rw [← HLL.out]; exact LL_ne h0))
    have hC2 := Lib.hid (isCh_end cd e cd a L (fun h0 => by rw [← HLL.out]; exact LL_ne h0))
    have hway := Lib.hid (fun (w3 : World) (hR3 : 0 < N → RowsAt g h (LL W I n' n e a) w3) => way_any W I n' n e cd a h60 q q' g h d d' N (by rw [HLL.out]; exact HN.out) HQ.out w3 hR3)
    obtain ⟨u, v, hform⟩ := way_form e cd a L (fun h0 => by rw [← HLL.out]; exact LL_ne h0)
    have HF := Lib.hid hform
    clear hN hq hR hb2 hLL hform
    generalize hE : (e : Int) % 3 = E at *
    have HE := Lib.hid hE
    clear hE
    have hb3 : Below w2.heap.size w2 (w2.alloc (.cells #[.slice q N d, .slice q' N d', .int .i64 E, .int .i64 cd, .int .i64 a] 29)) := (Below.refl _ _).alloc (Nat.le_refl _) _
    have hS0 := BoxAt.start w2 (.slice q N d) (.slice q' N d') E cd a
    have HB3 := Lib.hid hb3
    have HS0 := Lib.hid hS0
    clear hb3 hS0
    go_wp2_with fail
    refine (hway.out _ (fun hp => by rw [HLL.out]; exact (HR.out hp).keep HB3.out)).mono ?_
    rintro x w4 ⟨rfl, hb4⟩
    rw [HLL.out, HF.out]
    have HS4 := Lib.hid (HS0.out.keep hb4)
    have K1 := hC1.out
    have K2 := hC2.out
    rw [HF.out] at K1 K2
    rw [show (cd == cd) = true by simp, Bool.and_true] at K2
    generalize hbb : (decide ((0 : Int) < E) && (cd == m)) = bb at K1
    have HBB := Lib.hid hbb
    have KK1 := Lib.hid K1
    have t1 : (bb == bb) = true := by simp
    clear hb4 HS0 HB3 hC1 hC2 hbb K1
    by_cases hpos : 0 < E
    · rw [decide_eq_true hpos] at K2
      have KK2 := Lib.hid K2
      have z1 : decide ((0 : Int) < E) = true := decide_eq_true hpos
      obtain ⟨s0, s1, s2, s3, s4, s5, s6⟩ := HS4.out
      clear K2
      go_wp2_with fail
      go_region_held3 (fun w' => w'.cell? ⟨w2.heap.size, 0, none⟩ = some (.slice q N d) ∧ w'.cell? ⟨w2.heap.size, 1, none⟩ = some (.slice q' N d') ∧ w'.cell? ⟨w2.heap.size, 2, none⟩ = some (.int .i64 E) ∧ w'.cell? ⟨w2.heap.size, 3, none⟩ = some (.int .i64 cd) ∧ w'.cell? ⟨w2.heap.size, 4, none⟩ = some (.int .i64 a) ∧ w2.heap.size < w'.heap.size ∧ Below w2.heap.size w2 w')
        (first | exact ‹BoxAt w2 _ _ _ _ _ _ _› | exact BoxAt.keep (w := w2) (b := w2.heap.size) (v0 := .slice q N d) (v1 := .slice q' N d') (E := E) (cd := cd) (a := a) ⟨‹_›, ‹_›, ‹_›, ‹_›, ‹_›, ‹_›, ‹_›⟩ ((Below.refl _ _).drew) | go_keep)
        (first
          | (go_at_call 8; refine (awake_keepB (w := w2) (b := w2.heap.size) (v0 := .slice q N d) (v1 := .slice q' N d') (E := E) (cd := cd) (a := a) hg2.out _ ?_).mono ?_; (first | exact ‹BoxAt w2 _ _ _ _ _ _ _› | exact ⟨‹_›, ‹_›, ‹_›, ‹_›, ‹_›, ‹_›, ‹_›⟩); rintro x w' ⟨rfl, hs'⟩)
          | (go_at_call 15; refine (is_keepB (w := w2) (b := w2.heap.size) (v0 := .slice q N d) (v1 := .slice q' N d') (E := E) (cd := cd) (a := a) m _ bb KK1.out _ ?_).mono ?_; (first | exact ‹BoxAt w2 _ _ _ _ _ _ _› | exact ⟨‹_›, ‹_›, ‹_›, ‹_›, ‹_›, ‹_›, ‹_›⟩); rintro x w' ⟨rfl, hs'⟩)
          | (go_at_call 15; refine (is_keepB (w := w2) (b := w2.heap.size) (v0 := .slice q N d) (v1 := .slice q' N d') (E := E) (cd := cd) (a := a) cd _ true KK2.out _ ?_).mono ?_; (first | exact ‹BoxAt w2 _ _ _ _ _ _ _› | exact ⟨‹_›, ‹_›, ‹_›, ‹_›, ‹_›, ‹_›, ‹_›⟩); rintro x w' ⟨rfl, hs'⟩)
          | (go_at_call 16; refine (refIs_keepB (w := w2) (b := w2.heap.size) (v0 := .slice q N d) (v1 := .slice q' N d') (E := E) (cd := cd) (a := a) q q' N d N d' m bb HBB.out hI3.out _ ?_).mono ?_; (first | exact ‹BoxAt w2 _ _ _ _ _ _ _› | exact ⟨‹_›, ‹_›, ‹_›, ‹_›, ‹_›, ‹_›, ‹_›⟩); rintro x w' ⟨rfl, hs'⟩))
      all_goals
        go_wp2
        go_ret
        first
          | exact ⟨rfl, hB2.out.trans ((‹BoxAt w2 _ _ _ _ _ _ _›).2.2.2.2.2.2.mono hB2.out.size)⟩
          | exact ⟨rfl, hB2.out.trans ((‹Below w2.heap.size w2 _›).mono hB2.out.size)⟩
    · rw [decide_eq_false hpos] at K2
      have KK2 := Lib.hid K2
      have z1 : decide ((0 : Int) < E) = false := decide_eq_false hpos
      obtain ⟨s0, s1, s2, s3, s4, s5, s6⟩ := HS4.out
      clear K2
      go_wp2_with fail
      go_region_held3 (fun w' => w'.cell? ⟨w2.heap.size, 0, none⟩ = some (.slice q N d) ∧ w'.cell? ⟨w2.heap.size, 1, none⟩ = some (.slice q' N d') ∧ w'.cell? ⟨w2.heap.size, 2, none⟩ = some (.int .i64 E) ∧ w'.cell? ⟨w2.heap.size, 3, none⟩ = some (.int .i64 cd) ∧ w'.cell? ⟨w2.heap.size, 4, none⟩ = some (.int .i64 a) ∧ w2.heap.size < w'.heap.size ∧ Below w2.heap.size w2 w')
        (first | exact ‹BoxAt w2 _ _ _ _ _ _ _› | exact BoxAt.keep (w := w2) (b := w2.heap.size) (v0 := .slice q N d) (v1 := .slice q' N d') (E := E) (cd := cd) (a := a) ⟨‹_›, ‹_›, ‹_›, ‹_›, ‹_›, ‹_›, ‹_›⟩ ((Below.refl _ _).drew) | go_keep)
        (first
          | (go_at_call 8; refine (awake_keepB (w := w2) (b := w2.heap.size) (v0 := .slice q N d) (v1 := .slice q' N d') (E := E) (cd := cd) (a := a) hg2.out _ ?_).mono ?_; (first | exact ‹BoxAt w2 _ _ _ _ _ _ _› | exact ⟨‹_›, ‹_›, ‹_›, ‹_›, ‹_›, ‹_›, ‹_›⟩); rintro x w' ⟨rfl, hs'⟩)
          | (go_at_call 15; refine (is_keepB (w := w2) (b := w2.heap.size) (v0 := .slice q N d) (v1 := .slice q' N d') (E := E) (cd := cd) (a := a) m _ bb KK1.out _ ?_).mono ?_; (first | exact ‹BoxAt w2 _ _ _ _ _ _ _› | exact ⟨‹_›, ‹_›, ‹_›, ‹_›, ‹_›, ‹_›, ‹_›⟩); rintro x w' ⟨rfl, hs'⟩)
          | (go_at_call 15; refine (is_keepB (w := w2) (b := w2.heap.size) (v0 := .slice q N d) (v1 := .slice q' N d') (E := E) (cd := cd) (a := a) cd _ false KK2.out _ ?_).mono ?_; (first | exact ‹BoxAt w2 _ _ _ _ _ _ _› | exact ⟨‹_›, ‹_›, ‹_›, ‹_›, ‹_›, ‹_›, ‹_›⟩); rintro x w' ⟨rfl, hs'⟩)
          | (go_at_call 16; refine (refIs_keepB (w := w2) (b := w2.heap.size) (v0 := .slice q N d) (v1 := .slice q' N d') (E := E) (cd := cd) (a := a) q q' N d N d' m bb HBB.out hI3.out _ ?_).mono ?_; (first | exact ‹BoxAt w2 _ _ _ _ _ _ _› | exact ⟨‹_›, ‹_›, ‹_›, ‹_›, ‹_›, ‹_›, ‹_›⟩); rintro x w' ⟨rfl, hs'⟩))
      all_goals
        go_wp2
        go_ret
        first
          | exact ⟨rfl, hB2.out.trans ((‹BoxAt w2 _ _ _ _ _ _ _›).2.2.2.2.2.2.mono hB2.out.size)⟩
          | exact ⟨rfl, hB2.out.trans ((‹Below w2.heap.size w2 _›).mono hB2.out.size)⟩
  · rw [decide_eq_false h60]
    clear hx1
    go_wp2_with fail
    refine (awake_any _ hg1.out).mono ?_
    rintro x w2 ⟨rfl, hb2⟩
    have hB2 := hB.out.trans (hb2.mono hB.out.size)
    go_wp2
    go_ret
    exact ⟨rfl, hB2⟩
end Go.Proofs.YtplgcegpmebejaaDoor
