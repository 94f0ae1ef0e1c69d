/- Plain: lines of bytes. -/
import Derived.WalkKit
import Derived.Lib.Bytealg
import Derived.Lib.TrimByte
namespace Go.Proofs.YtcmdpablbadloaaDoor

/-- What stands ahead of the first line feed. -/
def row (l : List UInt8) : List UInt8 := l.takeWhile (· != 10)
/-- What stands behind the blanks. -/
def beh (l : List UInt8) : List UInt8 := l.dropWhile (· == 32)
/-- The lines of l, which begins at place p: where each begins, its blanks, its text. -/
def lns : Nat → List UInt8 → Nat → List (Nat × Nat × List UInt8)
  | 0, _, _ => []
  | f + 1, l, p => if l.isEmpty then [] else (p, (row l).length - (beh (row l)).length, beh (row l)) :: lns f (l.drop ((row l).length + 1)) (p + (row l).length + 1)

theorem row_le (l : List UInt8) : (row l).length ≤ l.length := by
  unfold row; exact (List.takeWhile_prefix _).length_le
theorem row_take (l : List UInt8) : row l = l.take (row l).length := by
  unfold row; exact List.prefix_iff_eq_take.1 (List.takeWhile_prefix _)
theorem beh_le (l : List UInt8) : (beh l).length ≤ l.length := by
  unfold beh; exact (List.dropWhile_suffix _).length_le
theorem index_row (l : List UInt8) : (Lib.indexByte l 10 = -1 ∧ row l = l) ∨ (Lib.indexByte l 10 = (row l).length ∧ (row l).length < l.length) := by
  induction l with
  | nil => left; exact ⟨rfl, rfl⟩
  | cons b l ih =>
    by_cases h : b = 10
    · subst h; right; simp [Lib.indexByte, row]
    · have h1 : (b == 10) = false := by simp [h]
      have h2 : row (b :: l) = b :: row l := by simp [row, h]
      rw [h2]
      rcases ih with ⟨i1, i2⟩ | ⟨i1, i2⟩
      · left; simp [Lib.indexByte, h1, i1, i2]
      · right
        have h3 : ¬ Lib.indexByte l 10 = -1 := by omega
        constructor
        · simp [Lib.indexByte, h1, h3]; omega
        · simp; omega
/-- What has been done when p bytes have been gone through, and what is left. -/
def LnsAt (L : List UInt8) (f p : Nat) (done : List (Nat × Nat × List UInt8)) : Prop := lns (L.length + 1) L 0 = done ++ lns f (L.drop p) p
theorem lnsAt_step {L : List UInt8} {f p : Nat} {done : List (Nat × Nat × List UInt8)} (h : LnsAt L (f + 1) p done) (hp : p < L.length) {R T : List UInt8} {k : Nat} (hR : row (L.drop p) = R) (hT : beh R = T) (hk : R.length - T.length = k) :
    LnsAt L f (p + R.length + 1) (done ++ [(p, k, T)]) := by
  unfold LnsAt at *
  rw [h, lns, if_neg (by simp; omega), hR, hT, hk]
  simp [List.drop_drop, Nat.add_assoc]
theorem lnsAt_end {L : List UInt8} {f p : Nat} {done : List (Nat × Nat × List UInt8)} (h : LnsAt L f p done) (hp : L.length ≤ p) : done = lns (L.length + 1) L 0 := by
  unfold LnsAt at h
  rw [List.drop_eq_nil_of_le hp] at h
  cases f <;> simpa [lns] using h.symm
theorem extract_drop (t : ByteArray) (p : Nat) : (t.extract p t.size).data.toList = t.data.toList.drop p := by
  have e : t.size = t.data.toList.length := by simp
  simp only [ByteArray.data_extract, Array.toList_extract, List.extract, e]
  rw [List.take_of_length_le (by simp)]
end Go.Proofs.YtcmdpablbadloaaDoor
