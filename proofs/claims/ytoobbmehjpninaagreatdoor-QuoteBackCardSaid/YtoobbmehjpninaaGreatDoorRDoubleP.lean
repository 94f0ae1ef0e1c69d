/- Plain: The values of the document's Double. -/
import Derived.Test.YtoobbmehjpninaaGreatDoorRSingleP
import Derived.Test.YtoobbmehjpninaaGreatDoorEscP
import Derived.Test.YtoobbmehjpninaaGreatDoorBtsP
namespace Go.Proofs.YtoobbmehjpninaaGreatDoor
open Go.RowKit

/-- What comes of reading from a place on: a text and the place behind its second mark; a place at which no escape begins; the text's end. -/
inductive DOut | done (l : List UInt8) (n : Nat) | bad (i : Nat) | cut
def DOut.pre (o : List UInt8) : DOut → DOut
  | .done l n => .done (o ++ l) n
  | .bad i => .bad i
  | .cut => .cut
theorem DOut.pre_pre (o p : List UInt8) (r : DOut) : (r.pre p).pre o = r.pre (o ++ p) := by cases r <;> simp [DOut.pre]
theorem DOut.pre_nil (r : DOut) : r.pre [] = r := by cases r <;> simp [DOut.pre]
def rdD (s : ByteArray) : Nat → Nat → DOut
  | 0, _ => .cut
  | f + 1, i => if h : i < s.size then
      (if bt s i = 34 then .done [] (i + 1)
       else if bt s i = 92 then (if (escN s i).2 = 0 then .bad i else (rdD s f (i + (escN s i).2.toNat)).pre (encB (escN s i).1.toNat))
       else (rdD s f (i + 1)).pre [s[i]]) else .cut
def dblV (s : ByteArray) (at' : Nat) : Value := match rdD s s.size (at' + 1) with
  | .done l n => gotV l at' n
  | .bad i => .agg #[.string ⟨#[]⟩, .int .i64 0, .int .i64 6, .int .i64 i]
  | .cut => .agg #[.string ⟨#[]⟩, .int .i64 0, .int .i64 3, .int .i64 s.size]
theorem rdD_end (s : ByteArray) (f i : Nat) (h : s.size ≤ i) : rdD s f i = .cut := by
  cases f with
  | zero => rfl
  | succ f => rw [rdD, dif_neg (by omega)]
theorem rdD_stop {s : ByteArray} {f i : Nat} (h : i < s.size) (h1 : bt s i = 34) : rdD s (f + 1) i = .done [] (i + 1) := by rw [rdD, dif_pos h, if_pos h1]
theorem rdD_bad {s : ByteArray} {f i : Nat} (h : i < s.size) (h1 : bt s i = 92) (h2 : (escN s i).2 = 0) : rdD s (f + 1) i = .bad i := by rw [rdD, dif_pos h, if_neg (by omega), if_pos h1, if_pos h2]
theorem rdD_esc {s : ByteArray} {f i : Nat} (h : i < s.size) (h1 : bt s i = 92) (h2 : (escN s i).2 ≠ 0) : rdD s (f + 1) i = (rdD s f (i + (escN s i).2.toNat)).pre (encB (escN s i).1.toNat) := by rw [rdD, dif_pos h, if_neg (by omega), if_pos h1, if_neg h2]
theorem rdD_one {s : ByteArray} {f i : Nat} (h : i < s.size) (h1 : bt s i ≠ 34) (h2 : bt s i ≠ 92) : rdD s (f + 1) i = (rdD s f (i + 1)).pre [s[i]] := by rw [rdD, dif_pos h, if_neg h1, if_neg h2]
theorem numR_pos {s : ByteArray} {i n : Nat} (h : ¬ numR s i n < 0) : i + n ≤ s.size := by
  unfold numR at h
  split at h
  · exact absurd (by decide) h
  · omega
theorem esc_range {s : ByteArray} {i : Nat} (h : i < s.size) : (escN s i).2 = 0 ∨ (2 ≤ (escN s i).2 ∧ (escN s i).2 ≤ 6 ∧ 0 ≤ (escN s i).1 ∧ (escN s i).1 < 65536 ∧ i + (escN s i).2.toNat ≤ s.size) := by
  have hb := bt_lt s (i + 1)
  have r2 := numR_range s (i + 2) 2
  have r4 := numR_range s (i + 2) 4
  have p2 : (16 : Int) ^ 2 = 256 := by decide
  have p4 : (16 : Int) ^ 4 = 65536 := by decide
  unfold escN
  split
  · left; rfl
  · split
    · right; refine ⟨by simp, by simp, by simp, by simp; omega, by simp; omega⟩
    · split
      · right; refine ⟨by simp, by simp, by simp, by simp, by simp; omega⟩
      · split
        · right; refine ⟨by simp, by simp, by simp, by simp, by simp; omega⟩
        · split
          · split
            · left; rfl
            · rename_i hx
              have := numR_pos hx
              right; refine ⟨by simp, by simp, by simp; omega, by simp; omega, by simp; omega⟩
          · split
            · split
              · left; rfl
              · rename_i hx
                have := numR_pos (s := s) (i := i + 2) (n := 4) (by omega)
                right; refine ⟨by simp, by simp, by simp; omega, by simp; omega, by simp; omega⟩
            · left; rfl

end Go.Proofs.YtoobbmehjpninaaGreatDoor
