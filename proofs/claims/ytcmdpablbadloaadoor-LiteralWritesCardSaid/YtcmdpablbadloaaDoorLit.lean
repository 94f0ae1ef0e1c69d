/- Plain: a text's header, whether it fits, its lines written: the document's words and the program's calls (layer 6). -/
import Derived.Test.YtcmdpablbadloaaDoorSpl
import Derived.Test.YtcmdpablbadloaaDoorShB
namespace Go.Proofs.YtcmdpablbadloaaDoor

theorem suf1 (s : ByteArray) (c : UInt8) : Lib.hasSuffix s.data.toList [c] = decide (0 < s.size ∧ bt s (s.size - 1) = c.toNat) := by
  have hz : s.size = s.data.toList.length := by simp
  rw [Bool.eq_iff_iff, decide_eq_true_iff]
  unfold Lib.hasSuffix
  rw [List.isSuffixOf_iff_suffix]
  constructor
  · rintro ⟨t, ht⟩
    have hl : s.size = t.length + 1 := by rw [hz, ← ht]; simp
    obtain ⟨d, h1, h2⟩ := bt_list s t.length (by omega)
    have h3 : s.data.toList.drop t.length = [c] := by rw [← ht]; simp
    rw [h2] at h3
    obtain ⟨rfl, _⟩ := List.cons.inj h3
    refine ⟨by omega, ?_⟩
    rw [show s.size - 1 = t.length by omega, h1]
  · rintro ⟨h0, h1⟩
    obtain ⟨d, h2, h3⟩ := bt_list s (s.size - 1) (by omega)
    have : d = c := UInt8.toNat_inj.1 (by rw [h2, h1])
    subst this
    rw [show s.size - 1 + 1 = s.size by omega, show s.data.toList.drop s.size = [] from List.drop_eq_nil_of_le (by omega)] at h3
    rw [← h3]; exact List.drop_suffix _ _
theorem suf2 (s : ByteArray) (c d : UInt8) : Lib.hasSuffix s.data.toList [c, d] = decide (1 < s.size ∧ bt s (s.size - 2) = c.toNat ∧ bt s (s.size - 1) = d.toNat) := by
  have hz : s.size = s.data.toList.length := by simp
  rw [Bool.eq_iff_iff, decide_eq_true_iff]
  unfold Lib.hasSuffix
  rw [List.isSuffixOf_iff_suffix]
  constructor
  · rintro ⟨t, ht⟩
    have hl : s.size = t.length + 2 := by rw [hz, ← ht]; simp
    obtain ⟨x, h1, h2⟩ := bt_list s t.length (by omega)
    obtain ⟨y, h1', h2'⟩ := bt_list s (t.length + 1) (by omega)
    have h3 : s.data.toList.drop t.length = [c, d] := by rw [← ht]; simp
    rw [h2, h2'] at h3
    obtain ⟨rfl, h4⟩ := List.cons.inj h3
    obtain ⟨rfl, _⟩ := List.cons.inj h4
    refine ⟨by omega, ?_, ?_⟩
    · rw [show s.size - 2 = t.length by omega, h1]
    · rw [show s.size - 1 = t.length + 1 by omega, h1']
  · rintro ⟨h0, h1, h2⟩
    obtain ⟨x, a1, a2⟩ := bt_list s (s.size - 2) (by omega)
    obtain ⟨y, b1, b2⟩ := bt_list s (s.size - 1) (by omega)
    have e1 : x = c := UInt8.toNat_inj.1 (by rw [a1, h1])
    have e2 : y = d := UInt8.toNat_inj.1 (by rw [b1, h2])
    subst e1; subst e2
    rw [show s.size - 1 + 1 = s.size by omega, show s.data.toList.drop s.size = [] from List.drop_eq_nil_of_le (by omega)] at b2
    rw [show s.size - 2 + 1 = s.size - 1 by omega, b2] at a2
    rw [← a2]; exact List.drop_suffix _ _
/-- The header's kind: by what the text ends. -/
def hdN (s : ByteArray) : List UInt8 := if s.size = 0 ∨ bt s (s.size - 1) ≠ 10 then [124, 45] else if 1 < s.size ∧ bt s (s.size - 2) = 10 then [124, 43] else [124]
theorem hdN_a {s : ByteArray} (h : Lib.hasSuffix s.data.toList [10] = false) : hdN s = [124, 45] := by
  rw [suf1] at h
  have h := of_decide_eq_false h
  unfold hdN; rw [if_pos]
  by_cases e : s.size = 0
  · exact .inl e
  · exact .inr fun h2 => h ⟨by omega, h2⟩
theorem hdN_b {s : ByteArray} (h : Lib.hasSuffix s.data.toList [10] = true) (h2 : Lib.hasSuffix s.data.toList [10, 10] = true) : hdN s = [124, 43] := by
  rw [suf1] at h
  rw [suf2] at h2
  have h := of_decide_eq_true h
  have h2 := of_decide_eq_true h2
  unfold hdN; rw [if_neg (fun h' => h'.elim (fun e => by omega) (fun e => e h.2)), if_pos ⟨h2.1, h2.2.1⟩]
theorem hdN_c {s : ByteArray} (h : Lib.hasSuffix s.data.toList [10] = true) (h2 : Lib.hasSuffix s.data.toList [10, 10] = false) : hdN s = [124] := by
  rw [suf1] at h
  rw [suf2] at h2
  have h := of_decide_eq_true h
  have h2 := of_decide_eq_false h2
  unfold hdN; rw [if_neg (fun h' => h'.elim (fun e => by omega) (fun e => e h.2)), if_neg (fun h' => h2 ⟨h'.1, h'.2, h.2⟩)]
theorem mk_list (b : ByteArray) : (⟨b.data.toList.toArray⟩ : ByteArray) = b := by cases b; simp
/-- Is there a line feed? -/
theorem lf_sp (l : List UInt8) : (0 ≤ Lib.indexByte l 10 ∧ 2 ≤ (sp l).length) ∨ (¬ 0 ≤ Lib.indexByte l 10 ∧ (sp l).length < 2) := by
  rcases index_row l with ⟨h1, h2⟩ | ⟨h1, h2⟩
  · right
    rcases sp_row l with ⟨_, h4⟩ | ⟨h3, _⟩
    · rw [h1, h4]; exact ⟨by omega, by simp⟩
    · rw [h2] at h3; omega
  · left
    rcases sp_row l with ⟨h3, _⟩ | ⟨_, h4⟩
    · rw [h3] at h2; omega
    · obtain ⟨r, rs, e⟩ := sp_some (l.drop ((row l).length + 1))
      rw [h1, h4, e]; exact ⟨by omega, by simp⟩
theorem cutB_len_sp (s : ByteArray) : (cutB s).length = (sp s.data.toList).length := by rw [← cutB_sp]; simp
theorem dl_all (f : List UInt8 → Bool) (hf : f [] = true) (l : List (List UInt8)) : (dl l).all f = l.all f := by
  induction l with
  | nil => rfl
  | cons r rs ih =>
    rw [dl]
    split
    · rename_i h
      have : rs = [] := by simpa using h
      subst this
      split
      · rename_i h2
        have : r = [] := by simpa using h2
        subst this; simp [hf]
      · rfl
    · rw [List.all_cons, List.all_cons, ih]
/-- Is a line of the program's one that fits? -/
def okX (L : List UInt8) (x : Nat × Nat × List UInt8) : Bool := okL shownB ⟨(rowOf L x).toArray⟩
theorem fit_lines (s : ByteArray) (h : ¬ ((cutB s).length < 2 ∨ bt s 0 = 10 ∨ bt s 0 = 32)) : fitB shownB s = (lns (s.size + 1) s.data.toList 0).all (okX s.data.toList) := by
  unfold fitB
  rw [decide_eq_false h]
  have e1 : (cutB s).all (okL shownB) = ((cutB s).map fun x => x.data.toList).all (fun r => okL shownB ⟨r.toArray⟩) := by
    rw [List.all_map]; congr 1
  have e2 : (lns (s.size + 1) s.data.toList 0).all (okX s.data.toList) = ((lns (s.size + 1) s.data.toList 0).map (rowOf s.data.toList)).all (fun r => okL shownB ⟨r.toArray⟩) := by
    rw [List.all_map]; rfl
  have e3 := lns_rows s.data.toList
  rw [show s.data.toList.length = s.size by simp] at e3
  rw [e1, e2, e3, cutB_sp, dl_all _ (by decide)]
  rfl
theorem fit_bad (s : ByteArray) (h : (cutB s).length < 2 ∨ bt s 0 = 10 ∨ bt s 0 = 32) : fitB shownB s = false := by
  unfold fitB; rw [decide_eq_true h]; rfl
theorem okX_eq (L : List UInt8) (p k : Nat) (T r : List UInt8) (hr : rowOf L (p, k, T) = r) (hT : beh r = T) : okX L (p, k, T) = (shownB ⟨T.toArray⟩ && !Lib.hasSuffix r [32]) := by
  unfold okX okL
  rw [hr, ← hT, shown_beh]
  have := suf1 ⟨r.toArray⟩ 32
  rw [show (⟨r.toArray⟩ : ByteArray).data.toList = r from rfl] at this
  rw [this]; rfl
/-- A line's bytes, written by n. -/
def preB (n : Nat) (r : List UInt8) : ByteArray := ⟨(preL n r).toArray⟩
def wrB (n : Nat) (s : ByteArray) : List ByteArray := (dl (sp s.data.toList)).map (preB n)
theorem wrB_lines (n : Nat) (s : ByteArray) : (lns (s.size + 1) s.data.toList 0).map (fun x => preB n (rowOf s.data.toList x)) = wrB n s := by
  have e3 := lns_rows s.data.toList
  rw [show s.data.toList.length = s.size by simp] at e3
  unfold wrB
  rw [← e3, List.map_map]; rfl
theorem wrB_cut (n : Nat) (s : ByteArray) {d : List ByteArray} {x : ByteArray} (h : cutB s = d ++ [x]) :
    wrB n s = (if x.size = 0 then d else d ++ [x]).map (fun b => preB n b.data.toList) := by
  have hx : (x.data.toList = []) ↔ x.size = 0 := by
    rw [← List.length_eq_zero_iff]; simp
  unfold wrB
  rw [← cutB_sp, h, List.map_append, List.map_cons, List.map_nil, dl_snoc]
  by_cases e : x.size = 0
  · rw [if_pos e, if_pos (hx.2 e), List.map_map]; rfl
  · rw [if_neg e, if_neg (fun h => e (hx.1 h))]
    rw [show d.map (fun x => x.data.toList) ++ [x.data.toList] = (d ++ [x]).map (fun x => x.data.toList) by simp, List.map_map]; rfl
end Go.Proofs.YtcmdpablbadloaaDoor
