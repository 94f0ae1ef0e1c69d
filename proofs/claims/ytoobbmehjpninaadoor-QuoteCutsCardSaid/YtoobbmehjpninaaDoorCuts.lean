/- What is read of a quoted text that is cut off. -/
import Derived.Test.YtoobbmehjpninaaDoorQRD
import Derived.Test.YtoobbmehjpninaaDoorPlainQ
namespace Go.Proofs.YtoobbmehjpninaaDoor
open Go.RowKit

theorem rest_cut (l : List UInt8) (k : Nat) (_h : k ≤ l.length) : rest8 ((⟨l.toArray⟩ : ByteArray).extract 0 k) 0 ++ l.drop k = l := by
  have : rest8 ((⟨l.toArray⟩ : ByteArray).extract 0 k) 0 = l.take k := by
    unfold rest8
    simp [ByteArray.data_extract]
  rw [this, List.take_append_drop]
theorem cut_size (l : List UInt8) (k : Nat) (h : k ≤ l.length) : ((⟨l.toArray⟩ : ByteArray).extract 0 k).size = k := by
  have hz : (⟨l.toArray⟩ : ByteArray).size = l.length := rfl
  simp; omega

/-- Cut off, a double-quoted text isn't one. -/
theorem cutD_any (s : ByteArray) (k : Nat) (w : World) (hk : k < (wdL s).length) (hk2 : k ≤ 100000) (hE : ErrCell w) :
    Calls Tryd.prog 10 #[.string ((⟨(wdL s).toArray⟩ : ByteArray).extract 0 k), .int .i64 0] w fun e w' => (∃ t c p, e = .returned (.tuple #[.string t, .int .i64 0, .agg #[.int .i64 c, .int .i64 p]]) ∧ (c != 0) = true) ∧ Below w.heap.size w w' := by
  have hz := cut_size (wdL s) k (by omega)
  have hrc := rest_cut (wdL s) k (by omega)
  obtain ⟨t, ht⟩ : ∃ t, (⟨(wdL s).toArray⟩ : ByteArray).extract 0 k = t := ⟨_, rfl⟩
  rw [ht] at hz hrc ⊢
  by_cases h0 : k = 0
  · exact (readDouble_no t 0 w (.inr (.inl (by omega)))).mono fun e w' ⟨h1, h2⟩ => ⟨⟨_, 3, 0, h1, by decide⟩, h2⟩
  · obtain ⟨h34, hn⟩ := cut_double hrc (by intro he; have := congrArg List.length he; simp at this; omega) (by omega)
    refine (readDouble_yes t 0 w (by omega) (by omega) h34 hE).mono fun e w' ⟨h1, h2⟩ => ⟨?_, h2⟩
    unfold dblT at h1
    rcases hn with hn | ⟨j, hn⟩
    · rw [show rdD t t.size (0 + 1) = .cut from hn] at h1
      exact ⟨_, 3, _, h1, by decide⟩
    · rw [show rdD t t.size (0 + 1) = .bad j from hn] at h1
      exact ⟨_, 6, _, h1, by decide⟩
/-- Cut off, a single-quoted text isn't one, or all of it is read. -/
theorem cutS_any (l : List UInt8) (k : Nat) (w : World) (hk : k < (wsL l).length) (hk2 : k ≤ 100000) :
    Calls Tryd.prog 11 #[.string ((⟨(wsL l).toArray⟩ : ByteArray).extract 0 k), .int .i64 0] w fun e w' => ((∃ t c p, e = .returned (.tuple #[.string t, .int .i64 0, .agg #[.int .i64 c, .int .i64 p]]) ∧ (c != 0) = true) ∨ (∃ t p, e = .returned (.tuple #[.string t, .int .i64 k, .agg #[.int .i64 0, .int .i64 p]]))) ∧ Below w.heap.size w w' := by
  have hz := cut_size (wsL l) k (by omega)
  have hrc := rest_cut (wsL l) k (by omega)
  obtain ⟨t, ht⟩ : ∃ t, (⟨(wsL l).toArray⟩ : ByteArray).extract 0 k = t := ⟨_, rfl⟩
  rw [ht] at hz hrc ⊢
  by_cases h0 : k = 0
  · exact (readSingle_no t 0 w (.inr (.inl (by omega)))).mono fun e w' ⟨h1, h2⟩ => ⟨.inl ⟨_, 3, 0, h1, by decide⟩, h2⟩
  · obtain ⟨h39, hn⟩ := cut_single hrc (by intro he; have := congrArg List.length he; simp at this; omega) (by omega)
    refine (readSingle_yes t 0 w (by omega) (by omega) h39).mono fun e w' ⟨h1, h2⟩ => ⟨?_, h2⟩
    unfold sglT at h1
    rcases hn with hn | ⟨l', hn⟩
    · rw [show rdS t t.size (0 + 1) = none from hn] at h1
      exact .inl ⟨_, 3, _, h1, by decide⟩
    · rw [show rdS t t.size (0 + 1) = some (l', t.size) from hn] at h1
      simp only at h1
      unfold gotT at h1
      by_cases hl : 1024 < l'.length
      · rw [if_pos hl] at h1
        exact .inl ⟨_, 5, _, h1, by decide⟩
      · rw [if_neg hl, hz] at h1
        exact .inr ⟨_, _, h1⟩
end Go.Proofs.YtoobbmehjpninaaDoor
