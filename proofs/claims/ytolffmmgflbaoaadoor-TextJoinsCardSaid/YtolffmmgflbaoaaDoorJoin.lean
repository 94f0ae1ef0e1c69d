/- Plain: lines, joined by line feeds, are the text but for a line feed at its end. -/
import Derived.Test.YtolffmmgflbaoaaDoorLns
namespace Go.Proofs.YtolffmmgflbaoaaDoor

/-- A line's bytes. -/
def fl (x : Nat × Nat × List UInt8) : List UInt8 := List.replicate x.2.1 32 ++ x.2.2
def jstep (a : Nat × List UInt8) (x : Nat × Nat × List UInt8) : Nat × List UInt8 := (a.1 + 1, (if 0 < a.1 then a.2 ++ [10] else a.2) ++ fl x)
/-- Lines with a line feed between each two. -/
def jn (l : List (Nat × Nat × List UInt8)) : List UInt8 := (l.foldl jstep (0, [])).2
theorem jcount (l : List (Nat × Nat × List UInt8)) (a : Nat × List UInt8) : (l.foldl jstep a).1 = a.1 + l.length := by
  induction l generalizing a with
  | nil => simp
  | cons x l ih => rw [List.foldl_cons, ih]; simp [jstep]; omega
theorem jn_first (x : Nat × Nat × List UInt8) : jn [x] = fl x := by simp [jn, jstep]
theorem jn_snoc (l : List (Nat × Nat × List UInt8)) (x : Nat × Nat × List UInt8) (h : 0 < l.length) : jn (l ++ [x]) = jn l ++ [10] ++ fl x := by
  unfold jn
  rw [List.foldl_append, List.foldl_cons, List.foldl_nil, jstep, if_pos (by rw [jcount]; simpa using h)]

theorem drop_beh (l : List UInt8) : l = List.replicate (l.length - (beh l).length) 32 ++ beh l := by
  induction l with
  | nil => rfl
  | cons b l ih =>
    by_cases h : b = 32
    · subst h
      have e : beh (32 :: l) = beh l := by simp [beh]
      have hle := beh_le l
      rw [e, show (32 :: l).length - (beh l).length = (l.length - (beh l).length) + 1 by simp; omega, List.replicate_succ, List.cons_append, ← ih]
    · have e : beh (b :: l) = b :: l := by simp [beh, h]
      rw [e]; simp

/-- What holds when the lines 'done' have been joined and the next one begins at p. -/
def Inv (L : List UInt8) (done : List (Nat × Nat × List UInt8)) (p : Nat) : Prop :=
  (done = [] ∧ p = 0) ∨ (0 < done.length ∧ 1 ≤ p ∧ p ≤ L.length + 1 ∧ jn done = L.take (p - 1) ∧ (p ≤ L.length → L[p - 1]? = some 10))

theorem row_next (l : List UInt8) (h : (row l).length < l.length) : l[(row l).length]? = some 10 := by
  induction l with
  | nil => simp [row] at h
  | cons b l ih =>
    by_cases hb : b = 10
    · subst hb; simp [row]
    · have e : row (b :: l) = b :: row l := by simp [row, hb]
      rw [e] at h ⊢
      simpa using ih (by simpa using h)

theorem inv_step {L : List UInt8} {done : List (Nat × Nat × List UInt8)} {p : Nat} (h : Inv L done p) (hp : p < L.length) :
    Inv L (done ++ [(p, (row (L.drop p)).length - (beh (row (L.drop p))).length, beh (row (L.drop p)))]) (p + (row (L.drop p)).length + 1) := by
  have hr := row_le (L.drop p)
  have hfl : fl (p, (row (L.drop p)).length - (beh (row (L.drop p))).length, beh (row (L.drop p))) = row (L.drop p) := (drop_beh _).symm
  have hrt : L.take (p + (row (L.drop p)).length) = L.take p ++ row (L.drop p) := by
    rw [List.take_add, ← row_take]
  have hnx : p + (row (L.drop p)).length + 1 ≤ L.length → L[p + (row (L.drop p)).length]? = some 10 := fun hh => by
    have := row_next (L.drop p) (by simp; omega)
    rwa [List.getElem?_drop] at this
  simp at hr
  right
  refine ⟨by simp, by omega, by omega, ?_, ?_⟩
  · rw [show p + (row (L.drop p)).length + 1 - 1 = p + (row (L.drop p)).length by omega, hrt]
    rcases h with ⟨rfl, rfl⟩ | ⟨h0, h1, h2, h3, h4⟩
    · rw [List.nil_append, jn_first, hfl]; simp
    · rw [jn_snoc _ _ h0, hfl, h3]
      have h10 := h4 (by omega)
      have : L.take p = L.take (p - 1) ++ [10] := by
        have hlt : p - 1 < L.length := by omega
        rw [List.getElem?_eq_getElem hlt] at h10
        have e := List.take_succ_eq_append_getElem hlt
        rw [show p - 1 + 1 = p by omega, Option.some.inj h10] at e
        exact e
      rw [this]
  · intro hh
    rw [show p + (row (L.drop p)).length + 1 - 1 = p + (row (L.drop p)).length by omega]
    exact hnx (by omega)
theorem inv_len {L : List UInt8} {done : List (Nat × Nat × List UInt8)} {p : Nat} (h : Inv L done p) (h0 : 0 < done.length) : (jn done).length + 1 = p := by
  rcases h with ⟨rfl, _⟩ | ⟨_, h1, h2, h3, _⟩
  · simp at h0
  · rw [h3]; simp; omega
theorem inv_end {L : List UInt8} {done : List (Nat × Nat × List UInt8)} {p : Nat} (h : Inv L done p) (hp : L.length ≤ p) : jn done = L ∨ jn done ++ [10] = L := by
  rcases h with ⟨rfl, rfl⟩ | ⟨_, h1, h2, h3, h4⟩
  · left; simp at hp; subst hp; rfl
  · by_cases e : p = L.length + 1
    · left; rw [h3, e]; simp
    · right
      obtain rfl : p = L.length := by omega
      have h10 := h4 (Nat.le_refl _)
      have hlt : L.length - 1 < L.length := by omega
      rw [List.getElem?_eq_getElem hlt] at h10
      have e := List.take_succ_eq_append_getElem hlt
      rw [show L.length - 1 + 1 = L.length by omega, Option.some.inj h10, List.take_length] at e
      rw [h3]; exact e.symm
end Go.Proofs.YtolffmmgflbaoaaDoor
