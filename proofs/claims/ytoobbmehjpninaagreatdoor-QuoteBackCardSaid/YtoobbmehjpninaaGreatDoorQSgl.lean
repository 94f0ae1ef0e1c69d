/- The walk of the program's Single: a text, single-quoted. -/
import Derived.Test.YtoobbmehjpninaaGreatDoorWSingleP
import Derived.Test.YtoobbmehjpninaaGreatDoorShelf
import Derived.Test.YtoobbmehjpninaaGreatDoorWrt
namespace Go.Proofs.YtoobbmehjpninaaGreatDoor
open Go.RowKit

def MaxLenCell (w : World) : Prop := ∃ m, w.cell? ⟨0, 0, none⟩ = some (.int .i64 m)
theorem max_below {w w' : World} (h : MaxLenCell w) (hb : Below w.heap.size w w') : MaxLenCell w' := by
  obtain ⟨m, hm⟩ := h
  exact ⟨m, (hb.cell (show (⟨0, 0, none⟩ : Addr).block < w.heap.size from World.block_lt_of_cell? _ _ hm)).trans hm⟩

theorem index39 (l : List UInt8) : ∀ i : Nat, Lib.indexByte l 39 = i → ∃ r, l = l.take i ++ 39 :: r ∧ l.drop (i + 1) = r ∧ i < l.length ∧ ∀ b ∈ l.take i, b ≠ 39 := by
  induction l with
  | nil => intro i h; simp [Lib.indexByte] at h
  | cons b l ih =>
    intro i h
    by_cases hb : b = 39
    · subst hb
      simp [Lib.indexByte] at h
      obtain rfl : i = 0 := by omega
      exact ⟨l, by simp⟩
    · have hb' : (b == 39) = false := by simpa using hb
      rw [Lib.indexByte, hb'] at h
      by_cases hm : Lib.indexByte l 39 = -1
      · simp [hm] at h
      · have hge := Lib.indexByte_ge l 39
        obtain ⟨j, hj⟩ : ∃ j : Nat, Lib.indexByte l 39 = j := ⟨(Lib.indexByte l 39).toNat, by omega⟩
        have hm2 : (Lib.indexByte l 39 == -1) = false := by simpa using hm
        simp only [hj] at h
        obtain ⟨r, h1, h2, h3, h4⟩ := ih j hj
        obtain rfl : i = j + 1 := by simp at h; omega
        refine ⟨r, by simpa using h1, by simpa using h2, by simp; omega, ?_⟩
        intro c hc
        simp only [List.take_succ_cons, List.mem_cons] at hc
        rcases hc with rfl | hc
        · exact hb
        · exact h4 c hc
theorem dbl_app (a b : List UInt8) : dbl (a ++ b) = dbl a ++ dbl b := by simp [dbl]
theorem dbl_none (l : List UInt8) (h : ∀ b ∈ l, b ≠ 39) : dbl l = l := by
  induction l with
  | nil => rfl
  | cons b l ih =>
    have hb : b.toNat ≠ 39 := fun e => h b (by simp) (UInt8.toNat_inj.1 e)
    have := ih fun c hc => h c (by simp [hc])
    simp only [dbl, List.flatMap_cons, if_neg hb] at this ⊢
    rw [this]; rfl
theorem rep_dbl (k : Nat) : ∀ l : List UInt8, l.count 39 = k → Lib.replaceK [39] [39, 39] k l = dbl l := by
  induction k with
  | zero =>
    intro l h
    rw [Lib.replaceK, dbl_none l (fun b hb e => by subst e; exact absurd (List.count_pos_iff.2 hb) (by omega))]
  | succ k ih =>
    intro l h
    obtain ⟨i, hi⟩ := Lib.index_of_count (s := l) (old := [39]) (by rw [Lib.count_one]; omega)
    rw [Lib.replaceK_hit _ _ _ _ i hi]
    rw [Lib.index_one] at hi
    obtain ⟨r, h1, h2, h3, h4⟩ := index39 l i hi
    have hr : r.count 39 = k := by
      rw [h1, List.count_append, List.count_cons_self] at h
      have : (l.take i).count 39 = 0 := List.count_eq_zero.2 fun hc => h4 39 hc rfl
      omega
    rw [show i + [(39 : UInt8)].length = i + 1 from rfl, h2, ih r hr]
    conv => rhs; rw [h1, dbl_app, dbl_none _ h4]
    simp [dbl]
theorem replace_dbl (l : List UInt8) : Lib.replaceAll l [39] [39, 39] = dbl l := by
  unfold Lib.replaceAll Lib.replace
  rw [if_neg (by decide)]
  unfold Lib.replaceNum
  rw [if_pos (.inl (by decide))]
  exact rep_dbl _ l (Lib.count_one 39 l).symm

theorem rep_any (s : ByteArray) (w : World) (hs : s.size ≤ 100000) (hm : MaxLenCell w) :
    Calls Tryz.prog 28 #[.string s, .string ⟨#[39]⟩, .string ⟨#[39, 39]⟩] w fun e w' => e = .returned (.string ⟨(dbl s.data.toList).toArray⟩) ∧ Below w.heap.size w w' := by
  obtain ⟨m, hm⟩ := hm
  have hcl := Lib.countB_le ⟨#[39]⟩ (by decide) s.size s (Nat.le_refl _)
  have hz : (⟨#[39, 39]⟩ : ByteArray).size = 2 := rfl
  have hlen : s.size + Lib.countB s ⟨#[39]⟩ * (⟨#[39, 39]⟩ : ByteArray).size ≤ 140737488355328 := by rw [hz]; omega
  have h := Tryz.strings_ReplaceAll s ⟨#[39]⟩ ⟨#[39, 39]⟩ m w (by omega) hm (by decide) hlen
  have hd : Lib.replaceAll s.data.toList (⟨#[39]⟩ : ByteArray).data.toList (⟨#[39, 39]⟩ : ByteArray).data.toList = dbl s.data.toList := replace_dbl _
  rw [hd] at h
  exact h

set_option maxRecDepth 100000 in
set_option maxHeartbeats 1000000 in
theorem single_any (s : ByteArray) (w : World) (hs : s.size ≤ 100000) (hm : MaxLenCell w) :
    Calls Tryz.prog 12 #[.string s] w fun e w' => e = .returned (.string ⟨(wsL s.data.toList).toArray⟩) ∧ Below w.heap.size w w' := by
  have HR := rep_any s w hs hm
  obtain ⟨l, hl⟩ : ∃ l, dbl s.data.toList = l := ⟨_, rfl⟩
  have HL := Lib.hid hl
  have hll : l.length ≤ 200000 := by have := dbl_len s.data.toList; rw [hl] at this; have : s.data.toList.length = s.size := (Lib.size_eq s).symm; omega
  rw [hl] at HR
  have hz2 : (⟨l.toArray⟩ : ByteArray).size = l.length := rfl
  have hz3 : (⟨#[39]⟩ ++ ⟨l.toArray⟩ : ByteArray).size = 1 + l.length := by rw [show (⟨#[39]⟩ : ByteArray) = ⟨[39].toArray⟩ from rfl, cat8]; show ([39] ++ l).length = _; simp; omega
  clear hl hm
  go_enter Tryz.func12, Tryz.ntmps12
  go_wp2_with (go_at_call 28; refine HR.mono ?_; rintro e w1 ⟨rfl, hb⟩)
  refine bodyPost_ret (v := .string ⟨(wsL s.data.toList).toArray⟩) ?_ rfl ⟨rfl, hb⟩
  have hc : (⟨#[39]⟩ : ByteArray) ++ ⟨l.toArray⟩ ++ ⟨#[39]⟩ = ⟨(wsL s.data.toList).toArray⟩ := by
    rw [show (⟨#[39]⟩ : ByteArray) = ⟨[39].toArray⟩ from rfl, cat8, cat8, wsL, HL.out]; rfl
  simp [results, Tryz.results12, go_sem, hc]
end Go.Proofs.YtoobbmehjpninaaGreatDoor
