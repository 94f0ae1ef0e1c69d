/- The walk of the law QuoteBack. -/
import Derived.Test.YtoobbmehjpninaaGreatDoorAwk5
import Derived.Test.YtoobbmehjpninaaGreatDoorQRD
import Derived.Test.YtoobbmehjpninaaGreatDoorPlainQ
import Derived.Test.YtoobbmehjpninaaGreatDoorValid
import Derived.Test.YtoobbmehjpninaaGreatDoorLens
namespace Go.Proofs.YtoobbmehjpninaaGreatDoor
open Go.RowKit

theorem rest_app (t : ByteArray) (l : List UInt8) : rest8 (t ++ ⟨l.toArray⟩) t.size = l := by
  unfold rest8
  have : t.size = t.data.toList.length := Lib.size_eq t
  rw [this]
  simp [ByteArray.data_append]
theorem same_text (s : ByteArray) : (⟨s.data.toList.toArray⟩ : ByteArray) = s := by apply ByteArray.ext; simp

/-- What Single wrote is read as it was. -/
theorem backS_any (s t : ByteArray) (w : World) (hs : s.size ≤ 1024) (htz : t.size ≤ 100) :
    Calls Tryz.prog 6 #[.string (t ++ ⟨(wsL s.data.toList).toArray⟩), .int .i64 t.size] w fun e w' => e = .returned (.tuple #[.string s, .int .i64 ((t.size : Int) + ((wsL s.data.toList).length : Int)), .agg #[.int .i64 0, .int .i64 0]]) ∧ Below w.heap.size w w' := by
  obtain ⟨h1, h2, h3, h4⟩ := back_single (rest_app t (wsL s.data.toList))
  have hl := wsL_len s.data.toList
  have hsl : s.data.toList.length = s.size := (Lib.size_eq s).symm
  refine (readSingle_yes _ t.size w (by omega) h1 h2).mono fun e w' ⟨he, hb⟩ => ⟨?_, hb⟩
  rw [he]
  unfold sglT gotT
  rw [h4]
  simp only
  rw [if_neg (by omega), same_text, ← h3]
  simp
/-- What Double wrote is read as it was. -/
theorem backD_any (s t : ByteArray) (w : World) (hs : s.size ≤ 1024) (htz : t.size ≤ 100) (hv : vldF s s.size 0 = true) (hE : ErrCell w) :
    Calls Tryz.prog 8 #[.string (t ++ ⟨(wdL s).toArray⟩), .int .i64 t.size] w fun e w' => e = .returned (.tuple #[.string s, .int .i64 ((t.size : Int) + ((wdL s).length : Int)), .agg #[.int .i64 0, .int .i64 0]]) ∧ Below w.heap.size w w' := by
  obtain ⟨h1, h2, h3, h4⟩ := back_double hv (rest_app t (wdL s))
  have hl := wdL_len s
  have hsl : s.data.toList.length = s.size := (Lib.size_eq s).symm
  refine (readDouble_yes _ t.size w (by omega) h1 h2 hE).mono fun e w' ⟨he, hb⟩ => ⟨?_, hb⟩
  rw [he]
  unfold dblT gotT
  rw [h4]
  simp only
  rw [if_neg (by omega), same_text, ← h3]
  simp

set_option maxRecDepth 100000 in
set_option maxHeartbeats 4000000 in
theorem quoteBack_walk (s t : ByteArray) (hs : s.size ≤ maxLen) (htl : t.size ≤ maxLen) (w : World) (hv : TzCell w ∧ MaxLenCell w ∧ ErrCell w) :
    Calls Tryz.prog 4 #[.string s, .string t] w fun e w' => e = .returned (.bool true) ∧ Below w.heap.size w w' := by
  obtain ⟨ht, hm, hE⟩ := hv
  unfold maxLen at hs htl
  have hA := fun w1 (hb : Below w.heap.size w w1) => awake5_any w1 (tz_below ht hb) (max_below hm hb)
  by_cases h1 : 1024 < s.size
  · have d1 : decide ((1024 : Int) < (s.size : Int)) = true := decide_eq_true (by omega)
    go_enter Tryz.func4, Tryz.ntmps4
    go_wp2_with fail
    refine (hA _ (Below.refl _ _)).mono ?_
    rintro e w1 ⟨rfl, hb1⟩
    go_wp2
    go_ret
    exact ⟨rfl, hb1⟩
  have d1 : decide ((1024 : Int) < (s.size : Int)) = false := decide_eq_false (by omega)
  by_cases h2 : 100 < t.size
  · have d2 : decide ((100 : Int) < (t.size : Int)) = true := decide_eq_true (by omega)
    go_enter Tryz.func4, Tryz.ntmps4
    go_wp2_with fail
    refine (hA _ (Below.refl _ _)).mono ?_
    rintro e w1 ⟨rfl, hb1⟩
    go_wp2
    go_ret
    exact ⟨rfl, hb1⟩
  have d2 : decide ((100 : Int) < (t.size : Int)) = false := decide_eq_false (by omega)
  have hs2 : s.size ≤ 1024 := by omega
  have ht2 : t.size ≤ 100 := by omega
  have hV := refValid_any s w (by omega)
  clear h1 h2
  cases hvl : vldF s s.size 0 with
  | false =>
    rw [hvl] at hV
    clear hvl
    go_enter Tryz.func4, Tryz.ntmps4
    go_wp2_with fail
    refine hV.mono ?_
    rintro e w1 ⟨rfl, n1, rfl⟩
    go_wp2_with fail
    refine (hA _ (bel_drewN (Below.refl _ w) n1)).mono ?_
    rintro e w2 ⟨rfl, hb2⟩
    have hB2 := (bel_drewN (Below.refl w.heap.size w) n1).trans (hb2.mono (by simp))
    clear hb2
    go_wp2
    go_ret
    exact ⟨rfl, hB2⟩
  | true =>
    rw [hvl] at hV
    have hla := wsL_len s.data.toList
    have hlb := wdL_len s
    rw [show s.data.toList.length = s.size from (Lib.size_eq s).symm] at hla
    have h1 := fun w1 (hb : Below w.heap.size w w1) => single_any s w1 (by omega) (max_below hm hb)
    have h2 := fun w1 (hb : Below w.heap.size w w1) => double_any s w1 (by omega) (tz_below ht hb)
    have h3 := fun w1 => backS_any s t w1 hs2 ht2
    have h4 := fun w1 (hb : Below w.heap.size w w1) => backD_any s t w1 hs2 ht2 hvl (err_below hE hb)
    have h5 := fun w1 => refShownQ_any ⟨(wdL s).toArray⟩ w1 (by show (wdL s).length ≤ _; omega)
    rw [show shqF ⟨(wdL s).toArray⟩ (⟨(wdL s).toArray⟩ : ByteArray).size 0 = true from wdL_shown s _] at h5
    obtain ⟨a, ha⟩ : ∃ a, wsL s.data.toList = a := ⟨_, rfl⟩
    obtain ⟨b, hb⟩ : ∃ b, wdL s = b := ⟨_, rfl⟩
    simp only [ha, hb] at h1 h2 h3 h4 h5 hla hlb
    have hza : (⟨a.toArray⟩ : ByteArray).size = a.length := rfl
    have hzb : (⟨b.toArray⟩ : ByteArray).size = b.length := rfl
    have t1 : (((t.size : Int) + (a.length : Int)) == (t.size : Int) + (a.length : Int)) = true := by simp
    have t2 : (((t.size : Int) + (b.length : Int)) == (t.size : Int) + (b.length : Int)) = true := by simp
    clear ha hb hvl hs htl
    go_enter Tryz.func4, Tryz.ntmps4
    go_wp2_with fail
    refine hV.mono ?_
    rintro e w0 ⟨rfl, n1, rfl⟩
    have hB0 := bel_drewN (Below.refl w.heap.size w) n1
    go_wp2_with fail
    refine (h1 _ hB0).mono ?_
    rintro e w1 ⟨rfl, hb1⟩
    have hB1 := hB0.trans (hb1.mono (by simp))
    clear hb1 hB0 hV
    go_wp2_with fail
    refine (h2 _ hB1).mono ?_
    rintro e w2 ⟨rfl, hb2⟩
    have hB2 := hB1.trans (hb2.mono hB1.size)
    clear hb2 hB1
    go_wp2_with fail
    refine (h3 _).mono ?_
    rintro e w3 ⟨rfl, hb3⟩
    have hB3 := hB2.trans (hb3.mono hB2.size)
    clear hb3 hB2 h1 h2
    go_wp2_with fail
    refine (h4 _ (hB3.alloc hB3.size _)).mono ?_
    rintro e w4 ⟨rfl, hb4⟩
    have hB4 := (hB3.alloc hB3.size _).trans (hb4.mono (by have := hB3.size; simp; omega))
    have r4 := (hb4.block w3.heap.size (by simp)).trans (heap_alloc_new w3 _)
    have l4 : w3.heap.size < w4.heap.size := (Array.getElem?_eq_some_iff.1 r4).1
    have R4 := Lib.hid r4
    clear hb4 r4 h3 h4
    go_wp2_with fail
    refine (hA _ (hB4.alloc hB4.size _)).mono ?_
    rintro e w5 ⟨rfl, hb5⟩
    have hB5 := (hB4.alloc hB4.size _).trans (hb5.mono (by have := hB4.size; simp; omega))
    have r5 := (hb5.block w3.heap.size (by simp; omega)).trans ((Lib.alloc_old _ _ _ l4).trans R4.out)
    have q5 := (hb5.block w4.heap.size (by simp)).trans (heap_alloc_new w4 _)
    have l5 : w4.heap.size < w5.heap.size := (Array.getElem?_eq_some_iff.1 q5).1
    have rc0 := cell_heap4 r5 0 _ rfl
    have rc1 := cell_heap4 r5 1 _ rfl
    have Q5 := Lib.hid q5
    clear hb5 r5 q5 hA
    go_wp2_with fail
    refine (bad_any _ _ _).mono ?_
    rintro e w6 ⟨rfl, hb6⟩
    have hB6 := hB5.trans (hb6.mono hB5.size)
    have q6 := (hb6.block w4.heap.size l5).trans Q5.out
    have qc0 := cell_heap4 q6 0 _ rfl
    have qc1 := cell_heap4 q6 1 _ rfl
    clear hb6 q6 rc0 rc1
    go_wp2_with fail
    refine (bad_any _ _ _).mono ?_
    rintro e w7 ⟨rfl, hb7⟩
    have hB7 := hB6.trans (hb7.mono hB6.size)
    clear hb7 qc0 qc1
    go_wp2_with fail
    refine (h5 _).mono ?_
    rintro e w8 ⟨rfl, n8, rfl⟩
    go_wp2
    refine bodyPost_ret (v := .bool true) (by simp [results, Tryz.results4, go_sem]) rfl ⟨rfl, bel_drewN hB7 n8⟩
end Go.Proofs.YtoobbmehjpninaaGreatDoor
