/- The walk of the program's Write (layer 6). -/
import Derived.Test.YtcmdpablbadloaaDoorRow
import Derived.Test.YtcmdpablbadloaaDoorInd
import Derived.Deep.DeepCutAuto
import Derived.Test.YtcmdpablbadloaaDoorLines
import Derived.Test.YtcmdpablbadloaaDoorAwakeText
namespace Go.Proofs.YtcmdpablbadloaaDoor
open Go.RowKit

theorem rep_blk (n : Nat) : Lib.repeatL [32] n = blk n := by
  induction n with
  | zero => rfl
  | succ n ih =>
    rw [Lib.repeatL, ih]; simp [blk, List.replicate_succ]
theorem blanks_rep (n : Nat) (w : World) (hn : n ≤ 1000) :
    Calls Tryd.prog 13 #[.string ⟨#[32]⟩, .int .i64 n] w fun e w' => e = .returned (.string ⟨(blk n).toArray⟩) ∧ Below w.heap.size w w' := by
  have h := Tryd.strings_Repeat ⟨#[32]⟩ n w (by omega) (by rw [show (⟨#[32]⟩ : ByteArray).size = 1 from rfl]; omega)
  rw [show (⟨#[32]⟩ : ByteArray).data.toList = [32] from rfl, rep_blk] at h
  exact h
/-- Of the lines of a text: each lies within it. -/
theorem lns_in (L : List UInt8) : ∀ (f p : Nat), ∀ x ∈ lns f (L.drop p) p, x.1 + x.2.1 + x.2.2.length ≤ L.length := by
  intro f
  induction f with
  | zero => intro p x hx; cases hx
  | succ f ih =>
    intro p x hx
    rw [lns] at hx
    split at hx
    · cases hx
    · rcases List.mem_cons.1 hx with rfl | hx
      · have h1 := row_le (L.drop p)
        have h2 := beh_le (row (L.drop p))
        rename_i h0
        have : 0 < (L.drop p).length := by
          rcases Nat.eq_zero_or_pos (L.drop p).length with h | h
          · exact absurd (List.isEmpty_iff_length_eq_zero.2 h) h0
          · exact h
        simp only [List.length_drop] at h1 this ⊢
        omega
      · rw [List.drop_drop] at hx
        have := ih (p + (row (L.drop p)).length + 1) x (by rw [show p + (row (L.drop p)).length + 1 = p + ((row (L.drop p)).length + 1) by omega]; exact hx)
        exact this
theorem lns_len (L : List UInt8) : ∀ (f p : Nat), (lns f (L.drop p) p).length ≤ L.length - p := by
  intro f
  induction f with
  | zero => intro p; simp [lns]
  | succ f ih =>
    intro p
    rw [lns]
    split
    · simp
    · rename_i h0
      have : 0 < (L.drop p).length := by
        rcases Nat.eq_zero_or_pos (L.drop p).length with h | h
        · exact absurd (List.isEmpty_iff_length_eq_zero.2 h) h0
        · exact h
      have := ih (p + (row (L.drop p)).length + 1)
      rw [List.drop_drop, show p + ((row (L.drop p)).length + 1) = p + (row (L.drop p)).length + 1 by omega, List.length_cons]
      simp only [List.length_drop] at *
      omega
theorem flat_at (A : List (Nat × Nat × List UInt8)) (m : Nat) (x : Nat × Nat × List UInt8) (h : A[m]? = some x) (j : Nat) (hj : j < 3) : (A.flatMap lnv)[m * 3 + j]? = (lnv x)[j]? := by
  induction A generalizing m with
  | nil => simp at h
  | cons y A ih =>
    cases m with
    | zero =>
      simp only [List.getElem?_cons_zero, Option.some.injEq] at h
      subst h
      rw [List.flatMap_cons, List.getElem?_append_left (by simp [lnv]; omega)]
      congr 1
      try omega
    | succ m =>
      rw [List.flatMap_cons, List.getElem?_append_right (by simp [lnv]; omega)]
      have := ih m (by simpa using h)
      rw [← this]
      congr 1
      simp [lnv]
      try omega
/-- A line's cells. -/
def LnC (w : World) (g : Nat) (A : List (Nat × Nat × List UInt8)) : Prop := ∀ m x, A[m]? = some x → w.cell? ⟨g, m * 3, none⟩ = some (.int .i64 x.1) ∧ w.cell? ⟨g, m * 3 + 1, none⟩ = some (.int .i64 x.2.1) ∧ w.cell? ⟨g, m * 3 + 2, none⟩ = some (.string ⟨x.2.2.toArray⟩)
theorem LnC.keep {w w' : World} {g : Nat} {A : List (Nat × Nat × List UInt8)} (h : LnC w g A) (hg : g < w.heap.size) (hb : Below w.heap.size w w') : LnC w' g A := by
  intro m x hx
  obtain ⟨h0, h1, h2⟩ := h m x hx
  exact ⟨(hb.cell (p := ⟨g, _, none⟩) hg).trans h0, (hb.cell (p := ⟨g, _, none⟩) hg).trans h1, (hb.cell (p := ⟨g, _, none⟩) hg).trans h2⟩
/-- The lines that Lines gives: where they lie. -/
theorem lines_at {w : World} {base : Nat} {v : Value} {A : List (Nat × Nat × List UInt8)} (h : w.ownsRow base 39 3 v A.length (A.flatMap lnv)) :
    ∃ r g cap, v = .slice r A.length cap ∧ (0 < A.length → r = some ⟨g, 0, none⟩ ∧ base ≤ g ∧ g < w.heap.size ∧ A.length ≤ cap ∧ cap ≤ maxLen) ∧ LnC w g A := by
  rcases Nat.eq_zero_or_pos A.length with h0 | h0
  · have hA : A = [] := List.eq_nil_of_length_eq_zero h0
    rcases h.2 with ⟨rfl, _⟩ | ⟨g, cap, cur, rfl, _⟩
    · exact ⟨none, 0, 0, by rw [h0], fun h => by omega, fun m x hx => by rw [hA] at hx; simp at hx⟩
    · exact ⟨_, g, cap, rfl, fun h => by omega, fun m x hx => by rw [hA] at hx; simp at hx⟩
  · obtain ⟨g, cap, rfl, hnc, hcm, hg, hgl, hc⟩ := own_cells h h0
    refine ⟨_, g, cap, rfl, fun _ => ⟨rfl, hg, hgl, hnc, hcm⟩, fun m x hx => ?_⟩
    have f0 := hc (m * 3 + 0) _ (flat_at A m x hx 0 (by omega))
    have f1 := hc (m * 3 + 1) _ (flat_at A m x hx 1 (by omega))
    have f2 := hc (m * 3 + 2) _ (flat_at A m x hx 2 (by omega))
    exact ⟨f0, f1, f2⟩
theorem ext_rowOf (s : ByteArray) (x : Nat × Nat × List UInt8) : s.extract x.1 (x.1 + x.2.1 + x.2.2.length) = ⟨(rowOf s.data.toList x).toArray⟩ := by
  have h := ext_list s x.1 (x.1 + x.2.1 + x.2.2.length)
  rw [show x.1 + x.2.1 + x.2.2.length - x.1 = x.2.1 + x.2.2.length by omega] at h
  unfold rowOf
  rw [← h]
theorem blanks_to (n : Nat) (a : Int) (ha : a = n) (w : World) (hn : n ≤ 1000) :
    Calls Tryd.prog 13 #[.string ⟨#[32]⟩, .int .i64 a] w fun e w' => e = .returned (.string ⟨(blk n).toArray⟩) ∧ Below w.heap.size w w' := by subst ha; exact blanks_rep n w hn
theorem row_of (s T : ByteArray) (p k : Nat) (R : List UInt8) (w : World) (hs : s.size ≤ 1000000) (hq : p + k + T.size ≤ s.size) (hR : s.extract p (p + k + T.size) = ⟨R.toArray⟩) :
    Calls Tryd.prog 15 #[.string s, .agg #[.int .i64 p, .int .i64 k, .string T]] w fun e w' => e = .returned (.string ⟨R.toArray⟩) ∧ Below w.heap.size w w' := by rw [← hR]; exact row_any s T p k w hs hq
theorem cat5 (a b : List UInt8) : (⟨a.toArray⟩ : ByteArray) ++ ⟨b.toArray⟩ = ⟨(a ++ b).toArray⟩ := by
  apply ByteArray.ext; simp [ByteArray.data_append]

set_option maxRecDepth 100000 in
set_option maxHeartbeats 8000000 in
theorem write_any (s : ByteArray) (i : Int) (w : World) (hs : s.size ≤ 10000) :
    Calls Tryd.prog 8 #[.string s, .int .i64 i] w fun e w' => ∃ v, e = .returned (.tuple #[.string ⟨(hdN s).toArray⟩, v]) ∧ w'.ownsRow w.heap.size 9 1 v (wrB (ind i) s).length (sv (wrB (ind i) s)) ∧ Below w.heap.size w w' := by
  obtain ⟨n, hn⟩ : ∃ n, ind i = n := ⟨_, rfl⟩
  have hn1 : n ≤ 1000 := hn ▸ ind_le i
  rw [hn]
  have HM := Lib.hid (show min (max i 0) 1000 = (n : Nat) by rw [← hn]; unfold ind; split <;> (try split) <;> omega)
  have HW := Lib.hid (wrB_lines n s)
  have HIN := Lib.hid (show ∀ x ∈ lns (s.size + 1) s.data.toList 0, x.1 + x.2.1 + x.2.2.length ≤ s.size from fun x hx => by
    have := lns_in s.data.toList (s.size + 1) 0 x (by simpa using hx)
    simpa using this)
  have hAl : (lns (s.size + 1) s.data.toList 0).length ≤ s.size := by
    have := lns_len s.data.toList (s.size + 1) 0
    simpa using this
  clear hn
  go_enter Tryd.func8, Tryd.ntmps8
  go_wp2_with fail
  refine (blanks_to n _ HM.out w hn1).mono ?_
  rintro e w0 ⟨rfl, hb0⟩
  have hw0 := hb0.size
  go_wp2_with fail
  refine (lines_any s _ (by omega)).mono ?_
  rintro e w1 ⟨v, rfl, hown, hb1⟩
  obtain ⟨A, hA⟩ : ∃ A, lns (s.size + 1) s.data.toList 0 = A := ⟨_, rfl⟩
  rw [hA] at hown HW HIN hAl
  clear hA
  obtain ⟨r, g, cap, rfl, hg, hc⟩ := lines_at hown
  have HC := Lib.hid hc
  have hg1 : 0 < A.length → g < w1.heap.size := fun h => (hg h).2.2.1
  have hr1 : 0 < A.length → r = some ⟨g, 0, none⟩ := fun h => (hg h).1
  have hcp : 0 < A.length → A.length ≤ cap ∧ cap ≤ maxLen := fun h => ⟨(hg h).2.2.2.1, (hg h).2.2.2.2⟩
  have HG1 := Lib.hid hg1
  have HR1 := Lib.hid hr1
  have HCP := Lib.hid hcp
  obtain ⟨P, hP⟩ : ∃ P, A.map (fun x => preB n (rowOf s.data.toList x)) = P := ⟨_, rfl⟩
  have hPl : P.length = A.length := by rw [← hP]; simp
  have HPW := Lib.hid (show wrB n s = P by rw [← HW.out, hP])
  have HPS := Lib.hid (show ∀ k x, A[k]? = some x → P.take (k + 1) = P.take k ++ [preB n (rowOf s.data.toList x)] from fun k b h => by
    rw [List.take_add_one, ← hP, List.getElem?_map, h]; rfl)
  clear hP hown hc hg hg1 hr1 hcp HW HM
  obtain ⟨i0, hi, hz0, hz1, hz2⟩ := info_parts infoS
  have hmx : (1000000 : Nat) < maxLen := by decide
  have hB1 := hb0.trans (hb1.mono hw0)
  have hw1 := hB1.size
  clear hb0 hb1 hw0
  go_wp2_with fail
  go_loopw [7, 18] (fun v j wr => ∃ k : Nat, j = .int .i64 k ∧ k ≤ A.length ∧ wr.ownsRow w1.heap.size 9 1 v k (sv (P.take k)) ∧ Below w1.heap.size w1 wr) (fun _ j _ => A.length - (intOf j).toNat)
  case atStart => exact ⟨0, rfl, by omega, World.ownsRow_nil _ _ _ _, Below.refl _ _⟩
  case round =>
    obtain ⟨k, rfl, hk, hown, hb2⟩ := hrel
    have hz := hb2.size
    by_cases hlt : k < A.length
    · obtain ⟨⟨p, q, T⟩, hx⟩ : ∃ x, A[k]? = some x := ⟨_, List.getElem?_eq_getElem hlt⟩
      have hgl := HG1.out (by omega)
      obtain ⟨hnc, hcm⟩ := HCP.out (by omega)
      obtain ⟨q0, q1, q2⟩ := (HC.out.keep hgl hb2) k _ hx
      simp only at q0 q1 q2
      have hin := HIN.out _ (List.mem_of_getElem? hx)
      simp only at hin
      have hRl : (rowOf s.data.toList (p, q, T)).length ≤ s.size := by
        have : (rowOf s.data.toList (p, q, T)).length ≤ q + T.length := by unfold rowOf; exact List.length_take_le _ _
        omega
      have HP := Lib.hid (HPS.out k _ hx)
      have hR := ext_rowOf s (p, q, T)
      simp only at hR
      obtain ⟨R, hRR⟩ : ∃ R, rowOf s.data.toList (p, q, T) = R := ⟨_, rfl⟩
      rw [hRR] at hR HP hRl
      have HRX := Lib.hid (show s.extract p (p + q + (⟨T.toArray⟩ : ByteArray).size) = ⟨R.toArray⟩ from hR)
      have HIX := Lib.hid (show p + q + (⟨T.toArray⟩ : ByteArray).size ≤ s.size from hin)
      obtain rfl := HR1.out (by omega)
      unfold maxLen at hcm
      have hB3 := hb2.alloc hz (.cells #[.int .i64 p, .int .i64 q, .string ⟨T.toArray⟩] 39)
      have hown3 := hown.alloc (.cells #[.int .i64 p, .int .i64 q, .string ⟨T.toArray⟩] 39)
      clear hx hR hRR hin hown hb2
      go_wp2_with fail
      refine (row_of s ⟨T.toArray⟩ p q R _ (by omega) HIX.out HRX.out).mono ?_
      rintro e w3 ⟨rfl, hb3⟩
      have hown4 := own_below hown3 hb3
      have hB4 := hB3.trans (hb3.mono hB3.size)
      have hz4 := hB4.size
      clear hown3 hB3 hb3 q0 q1 q2
      cases R with
      | nil =>
        have HP2 := Lib.hid (show P.take (k + 1) = P.take k ++ [⟨#[]⟩] from HP.out)
        clear HP
        go_wp2_with (at_builtin; refine wpList_append_own _ rfl _ _ 31 rfl w1.heap.size 9 i0 (.string ⟨#[]⟩) 1 16 Tryd.underlying31 hi hz0 hz1 hz2 rfl (by decide) _ _ _ rfl (hown4.alloc _) ⟨w3.heap.size, 0, none⟩ 1 1 (sv [⟨#[]⟩]) rfl rfl (fun j u hj => cells_new w3 _ _ j u hj) (fun y hy => by simp [sv] at hy; subst hy; rfl) (by omega) (by omega) (by simp; omega) ?_)
        intro v1 w4 own1 g1 _
        have hb5 := below_of_grown (hB4.alloc hz4 _) g1 (by simp; omega) (hown4.alloc _)
        rw [← sv_app, ← HP2.out] at own1
        clear hown4 g1 hB4
        go_wp2
        go_roundw
        case rel => exact ⟨k + 1, by go_num, by omega, own1, hb5⟩
        case measure => simp [intOf]; omega
      | cons c R =>
        have HP2 := Lib.hid (show P.take (k + 1) = P.take k ++ [⟨(blk n ++ (c :: R)).toArray⟩] from HP.out)
        have hcat := cat5 (blk n) (c :: R)
        have hbl : ¬ 9223372036854775807 < (blk n).length + (R.length + 1) := by
          rw [blk_len]; simp only [List.length_cons] at hRl; omega
        clear HP
        go_wp2_with (at_builtin; refine wpList_append_own _ rfl _ _ 31 rfl w1.heap.size 9 i0 (.string ⟨#[]⟩) 1 16 Tryd.underlying31 hi hz0 hz1 hz2 rfl (by decide) _ _ _ rfl (hown4.alloc _) ⟨w3.heap.size, 0, none⟩ 1 1 (sv [⟨(blk n ++ (c :: R)).toArray⟩]) rfl rfl (fun j u hj => cells_new w3 _ _ j u hj) (fun y hy => by simp [sv] at hy; subst hy; rfl) (by omega) (by omega) (by simp; omega) ?_)
        intro v1 w4 own1 g1 _
        have hb5 := below_of_grown (hB4.alloc hz4 _) g1 (by simp; omega) (hown4.alloc _)
        rw [← sv_app, ← HP2.out] at own1
        clear hown4 g1 hB4 hcat hbl
        go_wp2
        go_roundw
        case rel => exact ⟨k + 1, by go_num, by omega, own1, hb5⟩
        case measure => simp [intOf]; omega
    · obtain rfl : k = A.length := by omega
      rw [List.take_of_length_le (by omega), ← hPl, ← HPW.out] at hown
      have HO := Lib.hid (own_mono hown hw1)
      have hB := hB1.trans (hb2.mono hw1)
      clear hown hb2
      go_wp2_with fail
      refine (header_any s _ (by omega)).mono ?_
      rintro e w' ⟨rfl, rfl⟩
      go_wp2
      go_ret2
      exact ⟨_, rfl, HO.out, hB⟩
end Go.Proofs.YtcmdpablbadloaaDoor
