/- Plain: a text by its line feeds; the document's lines and the program's are the same rows (layer 6). -/
import Derived.Test.YtcmdpablbadloaaDoorFitP
import Derived.Test.YtcmdpablbadloaaDoorLns
import Derived.Test.YtcmdpablbadloaaDoorBlk
namespace Go.Proofs.YtcmdpablbadloaaDoor

/-- A text by its line feeds. -/
def sp : List UInt8 → List (List UInt8)
  | [] => [[]]
  | b :: l => if b = 10 then [] :: sp l else match sp l with
    | r :: rs => (b :: r) :: rs
    | [] => [[b]]
theorem sp_some (l : List UInt8) : ∃ r rs, sp l = r :: rs := by
  cases l with
  | nil => exact ⟨_, _, rfl⟩
  | cons b l =>
    rw [sp]
    split
    · exact ⟨_, _, rfl⟩
    · split <;> exact ⟨_, _, rfl⟩
theorem sp_lf (l : List UInt8) : sp (10 :: l) = [] :: sp l := by rw [sp, if_pos rfl]
theorem sp_cons {b : UInt8} (h : b ≠ 10) {l r : List UInt8} {rs : List (List UInt8)} (hs : sp l = r :: rs) : sp (b :: l) = (b :: r) :: rs := by
  rw [sp, if_neg h, hs]
/-- All but a last one that is empty. -/
def dl : List (List UInt8) → List (List UInt8)
  | [] => []
  | r :: rs => if rs.isEmpty then (if r.isEmpty then [] else [r]) else r :: dl rs
theorem dl_more (r : List UInt8) {rs : List (List UInt8)} (h : rs ≠ []) : dl (r :: rs) = r :: dl rs := by
  rw [dl, if_neg (by simpa using h)]
theorem dl_snoc (d : List (List UInt8)) (x : List UInt8) : dl (d ++ [x]) = if x = [] then d else d ++ [x] := by
  induction d with
  | nil => cases x <;> simp [dl]
  | cons r rs ih =>
    rw [List.cons_append, dl_more r (by simp), ih]
    split <;> rfl
theorem ext_list (s : ByteArray) (b e : Nat) : (s.extract b e).data.toList = (s.data.toList.drop b).take (e - b) := by
  simp only [ByteArray.data_extract, Array.toList_extract, List.extract]
theorem bt_list (s : ByteArray) (i : Nat) (h : i < s.size) : ∃ c : UInt8, c.toNat = bt s i ∧ s.data.toList.drop i = c :: s.data.toList.drop (i + 1) := by
  have hl : i < s.data.toList.length := by simpa using h
  refine ⟨s[i], bt_get s i h, ?_⟩
  rw [List.drop_eq_getElem_cons hl]; rfl
theorem cutF_sp (s : ByteArray) : ∀ (f i b : Nat), i ≤ s.size → b ≤ i → s.size < i + f → ∀ r rs, sp (s.data.toList.drop i) = r :: rs →
    (cutF s f i b).map (fun x => x.data.toList) = ((s.data.toList.drop b).take (i - b) ++ r) :: rs := by
  intro f
  induction f with
  | zero => intro i b h1 _ h2; omega
  | succ f ih =>
    intro i b hi hb hf r rs hs
    by_cases he : i = s.size
    · rw [cutF_cut hi (.inl he), cutF_end _ _ _ _ (by omega)]
      rw [List.drop_eq_nil_of_le (by simp; omega)] at hs
      obtain ⟨rfl, rfl⟩ := List.cons.inj (hs.symm.trans (show sp [] = [[]] from rfl))
      simp only [List.map_cons, List.map_nil, ext_list, List.append_nil]
    · obtain ⟨c, hc, hd⟩ := bt_list s i (by omega)
      obtain ⟨r', rs', hs'⟩ := sp_some (s.data.toList.drop (i + 1))
      rw [hd] at hs
      by_cases h10 : bt s i = 10
      · have : c = 10 := UInt8.toNat_inj.1 (by rw [hc, h10]; rfl)
        subst this
        rw [sp_lf, hs'] at hs
        obtain ⟨rfl, rfl⟩ := List.cons.inj hs
        rw [cutF_cut hi (.inr h10), List.map_cons, ih (i + 1) (i + 1) (by omega) (by omega) (by omega) r' rs' hs', ext_list]
        simp
      · have hne : c ≠ 10 := fun e => h10 (by rw [← hc, e]; rfl)
        rw [sp_cons hne hs'] at hs
        obtain ⟨rfl, rfl⟩ := List.cons.inj hs
        rw [cutF_on (by omega) h10, ih (i + 1) b (by omega) (by omega) (by omega) r' rs' hs']
        have e1 : (s.data.toList.drop b).take (i + 1 - b) = (s.data.toList.drop b).take (i - b) ++ [c] := by
          rw [show i + 1 - b = i - b + 1 by omega, List.take_add_one, List.getElem?_drop, show b + (i - b) = i by omega]
          have := congrArg (·[0]?) hd
          simp only [List.getElem?_drop, Nat.add_zero, List.getElem?_cons_zero] at this
          rw [this]; rfl
        rw [e1]; simp
theorem cutB_sp (s : ByteArray) : (cutB s).map (fun x => x.data.toList) = sp s.data.toList := by
  obtain ⟨r, rs, h⟩ := sp_some s.data.toList
  have := cutF_sp s (s.size + 1) 0 0 (by omega) (by omega) (by omega) r rs (by simpa using h)
  rw [cutB, this, h]; simp
theorem row_cons {b : UInt8} (h : b ≠ 10) (l : List UInt8) : row (b :: l) = b :: row l := by simp [row, h]
theorem row_lf (l : List UInt8) : row (10 :: l) = [] := by simp [row]
theorem sp_row (l : List UInt8) : (row l = l ∧ sp l = [l]) ∨ ((row l).length < l.length ∧ sp l = row l :: sp (l.drop ((row l).length + 1))) := by
  induction l with
  | nil => exact .inl ⟨rfl, rfl⟩
  | cons b l ih =>
    by_cases h : b = 10
    · subst h
      right
      rw [row_lf, sp_lf]
      exact ⟨by simp, by simp⟩
    · rw [row_cons h]
      rcases ih with ⟨h1, h2⟩ | ⟨h1, h2⟩
      · left
        exact ⟨by rw [h1], sp_cons h h2⟩
      · right
        refine ⟨by simp; omega, ?_⟩
        rw [sp_cons h h2]; simp
/-- What stands on a line, of the whole. -/
def rowOf (L : List UInt8) (x : Nat × Nat × List UInt8) : List UInt8 := (L.drop x.1).take (x.2.1 + x.2.2.length)
theorem lns_sp (L : List UInt8) : ∀ (f p : Nat), L.length < p + f → (lns f (L.drop p) p).map (rowOf L) = dl (sp (L.drop p)) := by
  intro f
  induction f with
  | zero => intro p h; rw [List.drop_eq_nil_of_le (by omega)]; rfl
  | succ f ih =>
    intro p h
    by_cases he : (L.drop p).isEmpty
    · have : L.drop p = [] := by simpa using he
      rw [lns, if_pos he, this]; rfl
    · rw [lns, if_neg he, List.map_cons]
      have hb := beh_le (row (L.drop p))
      have hr : rowOf L (p, (row (L.drop p)).length - (beh (row (L.drop p))).length, beh (row (L.drop p))) = row (L.drop p) := by
        unfold rowOf
        simp only
        rw [show (row (L.drop p)).length - (beh (row (L.drop p))).length + (beh (row (L.drop p))).length = (row (L.drop p)).length by omega]
        exact (row_take _).symm
      rw [hr]
      have hi := ih (p + (row (L.drop p)).length + 1) (by omega)
      rw [List.drop_drop, show p + ((row (L.drop p)).length + 1) = p + (row (L.drop p)).length + 1 by omega, hi]
      rcases sp_row (L.drop p) with ⟨h1, h2⟩ | ⟨h1, h2⟩
      · have e : L.drop (p + (row (L.drop p)).length + 1) = [] := List.drop_eq_nil_of_le (by rw [h1]; simp; omega)
        rw [e, h2, h1]
        generalize L.drop p = M at he
        show M :: [] = dl [M]
        cases M with
        | nil => exact absurd rfl he
        | cons c M => simp [dl]
      · rw [h2, dl_more _ (by obtain ⟨r, rs, e⟩ := sp_some ((L.drop p).drop ((row (L.drop p)).length + 1)); rw [e]; simp)]
        rw [List.drop_drop, show p + ((row (L.drop p)).length + 1) = p + (row (L.drop p)).length + 1 by omega]
theorem lns_rows (L : List UInt8) : (lns (L.length + 1) L 0).map (rowOf L) = dl (sp L) := by
  have := lns_sp L (L.length + 1) 0 (by omega)
  simpa using this
/-- A line, written by n. -/
def preL (n : Nat) (r : List UInt8) : List UInt8 := if r.isEmpty then [] else blk n ++ r
/-- A text's lines, written by n. -/
def wrL (n : Nat) (l : List UInt8) : List (List UInt8) := (dl (sp l)).map (preL n)
/-- The header's kind: by what the text ends. -/
def hdL (l : List UInt8) : List UInt8 := if l.getLast? = some 10 then (if l.dropLast.getLast? = some 10 then [124, 43] else [124]) else [124, 45]
end Go.Proofs.YtcmdpablbadloaaDoor
