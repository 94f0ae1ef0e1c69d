/- The walk of TextSplit. -/
import Derived.Test.YtolffmmgflbaoaaDoorLawSplitB
import Derived.Test.YtolffmmgflbaoaaDoorLawSplitC
namespace Go.Proofs.YtolffmmgflbaoaaDoor
open Go.RowKit

theorem cat2_size (s t : ByteArray) : (s ++ ⟨#[10]⟩ ++ t).size = s.size + 1 + t.size := by rw [ByteArray.size_append, ByteArray.size_append]; rfl
theorem cat2_at (s t : ByteArray) (j : Nat) : (s ++ ⟨#[10]⟩ ++ t).data.toList[j]? = (s.data.toList ++ [10] ++ t.data.toList)[j]? := by
  simp [ByteArray.data_append]
theorem bt_list (s : ByteArray) (j : Nat) (h : j < s.size) : s.data.toList[j]? = some (s[j]'h) ∧ (s[j]'h).toNat = bt s j := by
  refine ⟨?_, bt_get s j h⟩
  have h' : j < s.data.toList.length := by simpa using h
  rw [List.getElem?_eq_getElem h']; simp; rfl
theorem joined_cat (s t : ByteArray) : Joined s t (s ++ ⟨#[10]⟩ ++ t) := by
  have hz := cat2_size s t
  have key : ∀ j k (x : ByteArray) (hj : j < (s ++ ⟨#[10]⟩ ++ t).size) (hk : k < x.size), (s.data.toList ++ [10] ++ t.data.toList)[j]? = x.data.toList[k]? → bt (s ++ ⟨#[10]⟩ ++ t) j = bt x k := by
    intro j k x hj hk h
    obtain ⟨a1, a2⟩ := bt_list (s ++ ⟨#[10]⟩ ++ t) j hj
    obtain ⟨b1, b2⟩ := bt_list x k hk
    rw [cat2_at, h, b1] at a1
    rw [← a2, ← b2, Option.some.inj a1]
  refine ⟨hz, fun j hj => ?_, ?_, fun j hj => ?_⟩
  · apply key j j s (by omega) hj
    rw [List.append_assoc, List.getElem?_append_left (by simpa using hj)]
  · have := key s.size 0 ⟨#[10]⟩ (by omega) (by decide) (by
      rw [List.append_assoc, List.getElem?_append_right (by simp)]; simp)
    rw [this]; rfl
  · apply key (s.size + 1 + j) j t (by omega) hj
    rw [List.getElem?_append_right (by simp)]
    congr 1; simp

theorem ckf_lt (s : ByteArray) : ∀ (f i j : Nat), ckf s f i = some j → j ≤ s.size := by
  intro f
  induction f with
  | zero => intro i j h; cases h
  | succ f ih =>
    intro i j h
    rw [ckf] at h
    split at h
    · split at h
      · exact ih _ _ h
      · have := Option.some.inj h; omega
    · cases h

theorem textSplit_walk (s t : ByteArray) (hs : s.size ≤ maxLen) (ht : t.size ≤ maxLen) (w : World) :
    Calls Tryd.prog 6 #[.string s, .string t] w fun e w' => e = .returned (.bool true) ∧ Below w.heap.size w w' := by
  by_cases h1 : 30000 < s.size
  · exact textSplit_long s t hs ht (.inl h1) w
  by_cases h2 : 30000 < t.size
  · exact textSplit_long s t hs ht (.inr ⟨by omega, h2⟩) w
  have hj := joined_cat s t
  have hz := cat2_size s t
  have hu : (s ++ ⟨#[10]⟩ ++ t).size ≤ maxLen := by unfold maxLen; omega
  rcases ck_joined hj (by omega) (by omega) with ⟨i, a, b⟩ | ⟨a, b, c⟩ | ⟨i, a, b, c⟩
  · exact textSplit_a s t (by omega) (by omega) w _ (Lib.hid rfl) hu i (Lib.hid a) (Lib.hid b)
  · exact textSplit_b s t (by omega) (by omega) w _ (Lib.hid rfl) hu (Lib.hid a) (Lib.hid b) (Lib.hid c)
  · have hi : i ≤ 100000 := by
      have : ckf t t.size 0 = some i := by
        have h := b
        unfold ck at h
        rw [if_neg (by omega)] at h
        split at h
        · simp at h
        · rename_i x hx; simp at h; rw [hx, h]
      exact Nat.le_trans (ckf_lt t t.size 0 i this) (by omega)
    exact textSplit_c s t (by omega) (by omega) w _ (Lib.hid rfl) hu i hi (Lib.hid a) (Lib.hid b) (Lib.hid c)
end Go.Proofs.YtolffmmgflbaoaaDoor
