/- The walk of the law QuoteWrites. -/
import Derived.Test.YtoobbmehjpninaaDoorAwk5
import Derived.Test.YtoobbmehjpninaaDoorWSingle
import Derived.Test.YtoobbmehjpninaaDoorWDouble
namespace Go.Proofs.YtoobbmehjpninaaDoor
open Go.RowKit

theorem str_refl (l : List UInt8) : ((⟨l.toArray⟩ : ByteArray).toList == (⟨l.toArray⟩ : ByteArray).toList) = true := by simp

set_option maxRecDepth 100000 in
set_option maxHeartbeats 4000000 in
theorem quoteWrites_walk (s : ByteArray) (hs : s.size ≤ maxLen) (w : World) (hv : TzCell w ∧ MaxLenCell w) :
    Calls Tryd.prog 3 #[.string s] w fun e w' => e = .returned (.bool true) ∧ Below w.heap.size w w' := by
  obtain ⟨ht, hm⟩ := hv
  have hA := awake5_any w ht hm
  unfold maxLen at hs
  by_cases h : 3000 < s.size
  · go_enter Tryd.func3, Tryd.ntmps3
    go_wp2_with fail
    refine hA.mono ?_
    rintro e w1 ⟨rfl, hb1⟩
    go_wp2
    go_ret
    exact ⟨rfl, hb1⟩
  · have hs2 : s.size ≤ 3000 := by omega
    clear h hs
    go_enter Tryd.func3, Tryd.ntmps3
    go_wp2_with fail
    refine hA.mono ?_
    rintro e w1 ⟨rfl, hb1⟩
    have h1 := single_any s w1 (by omega) (max_below hm hb1)
    obtain ⟨l, hl⟩ : ∃ l, wsL s.data.toList = l := ⟨_, rfl⟩
    have r1 := fun w => refWSingle_any s w (by omega)
    rw [hl] at h1
    simp only [hl] at r1
    clear hl
    go_wp2_with fail
    refine h1.mono ?_
    rintro e w2 ⟨rfl, hb2⟩
    have hB2 := hb1.trans (hb2.mono hb1.size)
    go_wp2_with fail
    refine (r1 _).mono ?_
    rintro e w3 ⟨rfl, hb3⟩
    have hB3 := hB2.trans (hb3.mono hB2.size)
    have h2 := double_any s w3 (by omega) (tz_below ht hB3)
    obtain ⟨k, hk⟩ : ∃ k, wdL s = k := ⟨_, rfl⟩
    have r2 := fun w => refWDouble_any s w (by omega)
    rw [hk] at h2
    simp only [hk] at r2
    clear hk hb2 hb3 r1 h1
    go_wp2_with fail
    refine h2.mono ?_
    rintro e w4 ⟨rfl, hb4⟩
    have hB4 := hB3.trans (hb4.mono hB3.size)
    go_wp2_with fail
    refine (r2 _).mono ?_
    rintro e w5 ⟨rfl, hb5⟩
    have hB5 := hB4.trans (hb5.mono hB4.size)
    clear hb4 hb5 r2 h2
    go_wp2
    refine bodyPost_ret (v := .bool true) (by simp [results, Tryd.results3, go_sem]) rfl ⟨rfl, hB5⟩
end Go.Proofs.YtoobbmehjpninaaDoor
