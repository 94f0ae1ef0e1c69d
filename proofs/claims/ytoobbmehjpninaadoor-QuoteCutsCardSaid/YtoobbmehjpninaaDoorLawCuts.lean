/- The walk of the law QuoteCuts. -/
import Derived.Test.YtoobbmehjpninaaDoorAwk5
import Derived.Test.YtoobbmehjpninaaDoorCuts
namespace Go.Proofs.YtoobbmehjpninaaDoor
open Go.RowKit

theorem wsL_len (l : List UInt8) : (wsL l).length ≤ 2 * l.length + 2 := by
  have := dbl_len l
  unfold wsL
  simp; omega
theorem wdF_len (s : ByteArray) (f : Nat) : ∀ i, (wdF s f i).length ≤ 6 * f := by
  induction f with
  | zero => intro i; simp [wdF]
  | succ f ih =>
    intro i
    rw [wdF]
    split
    · have := ih (i + (dcN s i).2)
      have := escW_len (dcN s i).1
      rw [List.length_append]; omega
    · simp
theorem wdL_len (s : ByteArray) : (wdL s).length ≤ 6 * s.size + 2 := by
  have := wdF_len s s.size 0
  unfold wdL
  simp; omega

set_option maxRecDepth 100000 in
set_option maxHeartbeats 4000000 in
theorem quoteCuts_walk (s : ByteArray) (cut : Int) (hs : s.size ≤ maxLen) (_hc : (Lit.int .i64 cut).wf = true) (w : World) (hv : TzCell w ∧ MaxLenCell w ∧ ErrCell w) :
    Calls Tryd.prog 4 #[.string s, .int .i64 cut] w fun e w' => e = .returned (.bool true) ∧ Below w.heap.size w w' := by
  obtain ⟨ht, hm, hE⟩ := hv
  unfold maxLen at hs
  by_cases h : 1000 < s.size
  · have hA := awake5_any w ht hm
    go_enter Tryd.func4, Tryd.ntmps4
    go_wp2_with fail
    refine hA.mono ?_
    rintro e w1 ⟨rfl, hb1⟩
    go_wp2
    go_ret
    exact ⟨rfl, hb1⟩
  have hs2 : s.size ≤ 1000 := by omega
  have hla := wsL_len s.data.toList
  have hlb := wdL_len s
  rw [show s.data.toList.length = s.size from (Lib.size_eq s).symm] at hla
  have h1 := single_any s w (by omega) hm
  have h2 := fun w1 (hb : Below w.heap.size w w1) => double_any s w1 (by omega) (tz_below ht hb)
  have h4 := fun k w1 (hk : k < (wsL s.data.toList).length) => cutS_any s.data.toList k w1 hk (by omega)
  have h3 := fun k w1 (hk : k < (wdL s).length) (hb : Below w.heap.size w w1) => cutD_any s k w1 hk (by omega) (err_below hE hb)
  obtain ⟨a, ha⟩ : ∃ a, wsL s.data.toList = a := ⟨_, rfl⟩
  obtain ⟨b, hb⟩ : ∃ b, wdL s = b := ⟨_, rfl⟩
  simp only [ha, hb] at h1 h2 h3 h4 hla hlb
  have hza : (⟨a.toArray⟩ : ByteArray).size = a.length := rfl
  have hzb : (⟨b.toArray⟩ : ByteArray).size = b.length := rfl
  have hA := fun w1 (hb : Below w.heap.size w w1) => awake5_any w1 (tz_below ht hb) (max_below hm hb)
  clear ha hb h hs
  by_cases hout : cut < 0 ∨ (a.length : Int) ≤ cut ∨ (b.length : Int) ≤ cut
  · rcases hout with ho | ho | ho
    · have d1 : decide (cut < 0) = true := decide_eq_true ho
      clear h3 h4
      go_enter Tryd.func4, Tryd.ntmps4
      go_wp2_with fail
      refine h1.mono ?_
      rintro e w1 ⟨rfl, hb1⟩
      go_wp2_with fail
      refine (h2 _ hb1).mono ?_
      rintro e w2 ⟨rfl, hb2⟩
      have hB2 := hb1.trans (hb2.mono hb1.size)
      go_wp2_with fail
      refine (hA _ hB2).mono ?_
      rintro e w3 ⟨rfl, hb3⟩
      go_wp2
      go_ret
      exact ⟨rfl, hB2.trans (hb3.mono hB2.size)⟩
    · by_cases hn : cut < 0
      · exact absurd hn (by omega)
      have d1 : decide (cut < 0) = false := decide_eq_false hn
      have d2 : decide ((a.length : Int) ≤ cut) = true := decide_eq_true ho
      clear h3 h4
      go_enter Tryd.func4, Tryd.ntmps4
      go_wp2_with fail
      refine h1.mono ?_
      rintro e w1 ⟨rfl, hb1⟩
      go_wp2_with fail
      refine (h2 _ hb1).mono ?_
      rintro e w2 ⟨rfl, hb2⟩
      have hB2 := hb1.trans (hb2.mono hb1.size)
      go_wp2_with fail
      refine (hA _ hB2).mono ?_
      rintro e w3 ⟨rfl, hb3⟩
      go_wp2
      go_ret
      exact ⟨rfl, hB2.trans (hb3.mono hB2.size)⟩
    · by_cases hn : cut < 0
      · exact absurd hn (by omega)
      have d1 : decide (cut < 0) = false := decide_eq_false hn
      have d3 : decide ((b.length : Int) ≤ cut) = true := decide_eq_true ho
      clear h3 h4
      by_cases hd2 : (a.length : Int) ≤ cut
      · have d2 : decide ((a.length : Int) ≤ cut) = true := decide_eq_true hd2
        go_enter Tryd.func4, Tryd.ntmps4
        go_wp2_with fail
        refine h1.mono ?_
        rintro e w1 ⟨rfl, hb1⟩
        go_wp2_with fail
        refine (h2 _ hb1).mono ?_
        rintro e w2 ⟨rfl, hb2⟩
        have hB2 := hb1.trans (hb2.mono hb1.size)
        go_wp2_with fail
        refine (hA _ hB2).mono ?_
        rintro e w3 ⟨rfl, hb3⟩
        go_wp2
        go_ret
        exact ⟨rfl, hB2.trans (hb3.mono hB2.size)⟩
      · have d2 : decide ((a.length : Int) ≤ cut) = false := decide_eq_false hd2
        go_enter Tryd.func4, Tryd.ntmps4
        go_wp2_with fail
        refine h1.mono ?_
        rintro e w1 ⟨rfl, hb1⟩
        go_wp2_with fail
        refine (h2 _ hb1).mono ?_
        rintro e w2 ⟨rfl, hb2⟩
        have hB2 := hb1.trans (hb2.mono hb1.size)
        go_wp2_with fail
        refine (hA _ hB2).mono ?_
        rintro e w3 ⟨rfl, hb3⟩
        go_wp2
        go_ret
        exact ⟨rfl, hB2.trans (hb3.mono hB2.size)⟩
  · obtain ⟨k, rfl⟩ : ∃ k : Nat, cut = k := ⟨cut.toNat, by omega⟩
    have hka : k < a.length := by omega
    have hkb : k < b.length := by omega
    have d1 : decide ((k : Int) < 0) = false := decide_eq_false (by omega)
    have d2 : decide ((a.length : Int) ≤ (k : Int)) = false := decide_eq_false (by omega)
    have d3 : decide ((b.length : Int) ≤ (k : Int)) = false := decide_eq_false (by omega)
    replace h3 := fun w1 (hb : Below w.heap.size w w1) => h3 k w1 hkb hb
    replace h4 := fun w1 => h4 k w1 hka
    clear hout
    go_enter Tryd.func4, Tryd.ntmps4
    go_wp2_with fail
    refine h1.mono ?_
    rintro e w1 ⟨rfl, hb1⟩
    go_wp2_with fail
    refine (h2 _ hb1).mono ?_
    rintro e w2 ⟨rfl, hb2⟩
    have hB2 := hb1.trans (hb2.mono hb1.size)
    go_wp2_with fail
    refine (h3 _ hB2).mono ?_
    rintro e w3 ⟨⟨t, c, p, rfl, hc0⟩, hb3⟩
    have hB3 := hB2.trans (hb3.mono hB2.size)
    clear h1 h2 h3 hb2 hb3
    go_wp2_with fail
    refine (h4 _).mono ?_
    rintro e w4 ⟨hres, hb4⟩
    rcases hres with ⟨t', c', p', rfl, hc1⟩ | ⟨t', p', rfl⟩
    · skip
      have hB4 := (hB3.alloc hB3.size _).trans (hb4.mono (by have := hB3.size; simp; omega))
      have r4 := (hb4.block w3.heap.size (by simp)).trans (heap_alloc_new w3 _)
      have l4 : w3.heap.size < w4.heap.size := (Array.getElem?_eq_some_iff.1 r4).1
      have R4 := Lib.hid r4
      clear hb4 r4
      go_wp2_with fail
      refine (hA _ (hB4.alloc hB4.size _)).mono ?_
      rintro e w5 ⟨rfl, hb5⟩
      have hB5 := (hB4.alloc hB4.size _).trans (hb5.mono (by have := hB4.size; simp; omega))
      have r5 := (hb5.block w3.heap.size (by simp; omega)).trans ((Lib.alloc_old _ _ _ l4).trans R4.out)
      have q5 := (hb5.block w4.heap.size (by simp)).trans (heap_alloc_new w4 _)
      have l5 : w4.heap.size < w5.heap.size := (Array.getElem?_eq_some_iff.1 q5).1
      have rc0 := cell_heap4 r5 0 _ rfl
      have rc1 := cell_heap4 r5 1 _ rfl
      have Q5 := Lib.hid q5
      clear hb5 r5 q5
      go_wp2_with fail
      refine (bad_any _ _ _).mono ?_
      rintro e w6 ⟨rfl, hb6⟩
      rw [hc0]
      have hB6 := hB5.trans (hb6.mono hB5.size)
      have q6 := (hb6.block w4.heap.size l5).trans Q5.out
      have qc0 := cell_heap4 q6 0 _ rfl
      have qc1 := cell_heap4 q6 1 _ rfl
      clear hb6 q6 rc0 rc1
      go_wp2_with fail
      refine (bad_any _ _ _).mono ?_
      rintro e w7 ⟨rfl, hb7⟩
      rw [hc1]
      have hB7 := hB6.trans (hb7.mono hB6.size)
      clear hb7 qc0 qc1
      go_wp2
      refine bodyPost_ret (v := .bool true) (by simp [results, Tryd.results4, go_sem]) rfl ⟨rfl, hB7⟩
    · skip
      have hB4 := (hB3.alloc hB3.size _).trans (hb4.mono (by have := hB3.size; simp; omega))
      have r4 := (hb4.block w3.heap.size (by simp)).trans (heap_alloc_new w3 _)
      have l4 : w3.heap.size < w4.heap.size := (Array.getElem?_eq_some_iff.1 r4).1
      have R4 := Lib.hid r4
      clear hb4 r4
      go_wp2_with fail
      refine (hA _ (hB4.alloc hB4.size _)).mono ?_
      rintro e w5 ⟨rfl, hb5⟩
      have hB5 := (hB4.alloc hB4.size _).trans (hb5.mono (by have := hB4.size; simp; omega))
      have r5 := (hb5.block w3.heap.size (by simp; omega)).trans ((Lib.alloc_old _ _ _ l4).trans R4.out)
      have q5 := (hb5.block w4.heap.size (by simp)).trans (heap_alloc_new w4 _)
      have l5 : w4.heap.size < w5.heap.size := (Array.getElem?_eq_some_iff.1 q5).1
      have rc0 := cell_heap4 r5 0 _ rfl
      have rc1 := cell_heap4 r5 1 _ rfl
      have Q5 := Lib.hid q5
      clear hb5 r5 q5
      go_wp2_with fail
      refine (bad_any _ _ _).mono ?_
      rintro e w6 ⟨rfl, hb6⟩
      rw [hc0]
      have hB6 := hB5.trans (hb6.mono hB5.size)
      have q6 := (hb6.block w4.heap.size l5).trans Q5.out
      have qc0 := cell_heap4 q6 0 _ rfl
      have qc1 := cell_heap4 q6 1 _ rfl
      clear hb6 q6 rc0 rc1
      go_wp2_with fail
      refine (bad_any _ _ _).mono ?_
      rintro e w7 ⟨rfl, hb7⟩
      skip
      have hB7 := hB6.trans (hb7.mono hB6.size)
      clear hb7 qc0 qc1
      go_wp2
      refine bodyPost_ret (v := .bool true) (by simp [results, Tryd.results4, go_sem]) rfl ⟨rfl, hB7⟩
end Go.Proofs.YtoobbmehjpninaaDoor
