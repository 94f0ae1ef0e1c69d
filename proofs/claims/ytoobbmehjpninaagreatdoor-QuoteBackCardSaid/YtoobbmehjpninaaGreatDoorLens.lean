/- How long the quoted texts are. -/
import Derived.Test.YtoobbmehjpninaaGreatDoorWDoubleP
namespace Go.Proofs.YtoobbmehjpninaaGreatDoor

theorem wsL_len (l : List UInt8) : (wsL l).length ≤ 2 * l.length + 2 := by
  have := dbl_len l
  unfold wsL
  simp; omega
theorem wdF_len (s : ByteArray) (f : Nat) : ∀ i, (wdF s f i).length ≤ 6 * f := by
  induction f with
  | zero => intro i; simp [wdF]
  | succ f ih =>
    intro i
    rw [wdF]
    split
    · have := ih (i + (dcN s i).2)
      have := escW_len (dcN s i).1
      rw [List.length_append]; omega
    · simp
theorem wdL_len (s : ByteArray) : (wdL s).length ≤ 6 * s.size + 2 := by
  have := wdF_len s s.size 0
  unfold wdL
  simp; omega
end Go.Proofs.YtoobbmehjpninaaGreatDoor
