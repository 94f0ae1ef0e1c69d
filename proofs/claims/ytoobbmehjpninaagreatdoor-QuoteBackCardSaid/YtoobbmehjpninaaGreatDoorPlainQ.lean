/- Writing, then reading: what the document's answers say; plain: no walk. -/
import Derived.Test.YtoobbmehjpninaaGreatDoorShowD
namespace Go.Proofs.YtoobbmehjpninaaGreatDoor
open Go.RowKit

theorem dbl_ge (l : List UInt8) : l.length ≤ (dbl l).length := by
  induction l with
  | nil => simp [dbl]
  | cons b l ih =>
    rw [dbl_cons, List.length_append]
    split <;> simp <;> omega
theorem rest8_lt {t : ByteArray} {i : Nat} {b : UInt8} {r : List UInt8} (h : rest8 t i = b :: r) : i < t.size ∧ bt t i = b.toNat ∧ rest8 t (i + 1) = r ∧ i + 1 + r.length = t.size := by
  obtain ⟨hi, _, hb, h2⟩ := rest8_cons h
  have := rest8_len (t := t) (i := i + 1) (by omega)
  rw [h2] at this
  exact ⟨hi, hb, h2, this⟩

theorem back_single {l : List UInt8} {t : ByteArray} {a : Nat} (h : rest8 t a = wsL l) :
    a < t.size ∧ bt t a = 39 ∧ a + (wsL l).length = t.size ∧ rdS t t.size (a + 1) = some (l, t.size) := by
  unfold wsL at h ⊢
  rw [List.cons_append] at h ⊢
  obtain ⟨hi, hb, h2, hn⟩ := rest8_lt h
  have hg := dbl_ge l
  simp only [List.length_append, List.length_cons, List.length_nil] at hn ⊢
  refine ⟨hi, hb, by omega, ?_⟩
  rw [rdS_back l t (a + 1) t.size [] h2 (by simp) (by omega)]
  congr 2
theorem back_double {s t : ByteArray} {a : Nat} (hv : vldF s s.size 0 = true) (h : rest8 t a = wdL s) :
    a < t.size ∧ bt t a = 34 ∧ a + (wdL s).length = t.size ∧ rdD t t.size (a + 1) = .done s.data.toList t.size := by
  unfold wdL at h ⊢
  rw [List.cons_append] at h ⊢
  obtain ⟨hi, hb, h2, hn⟩ := rest8_lt h
  simp only [List.length_append, List.length_cons, List.length_nil] at hn ⊢
  refine ⟨hi, hb, by omega, ?_⟩
  obtain ⟨ps, e1, e2, e3⟩ := wdF_tokV s s.size 0 hv (by omega) (by omega)
  rw [rdD_back ps e3 t (a + 1) t.size [] (by rw [h2, e1]) (by rw [← e1]; omega), ← e1, ← e2]
  congr 1
theorem cut_single {l : List UInt8} {t : ByteArray} {q : List UInt8} (h : rest8 t 0 ++ q = wsL l) (hq : q ≠ []) (h0 : 0 < t.size) :
    bt t 0 = 39 ∧ (rdS t t.size 1 = none ∨ ∃ l', rdS t t.size 1 = some (l', t.size)) := by
  obtain ⟨c, r, hr⟩ : ∃ c r, rest8 t 0 = c :: r := ⟨_, _, rest8_at h0⟩
  obtain ⟨hi, hb, h2, hn⟩ := rest8_lt hr
  unfold wsL at h
  rw [hr] at h
  simp only [List.cons_append, List.cons.injEq] at h
  obtain ⟨rfl, h⟩ := h
  refine ⟨hb, ?_⟩
  obtain ⟨q', x, rfl⟩ : ∃ q' x, q = q' ++ [x] := ⟨q.dropLast, q.getLast hq, (List.dropLast_concat_getLast hq).symm⟩
  rw [← List.append_assoc] at h
  have h3 := List.append_inj_left' h (by simp)
  exact rdS_cut l t 1 t.size q' (by rw [h2]; exact h3) (by rw [h2]; omega) (by omega)
theorem cut_double {s t : ByteArray} {q : List UInt8} (h : rest8 t 0 ++ q = wdL s) (hq : q ≠ []) (h0 : 0 < t.size) :
    bt t 0 = 34 ∧ (rdD t t.size 1).Not := by
  obtain ⟨c, r, hr⟩ : ∃ c r, rest8 t 0 = c :: r := ⟨_, _, rest8_at h0⟩
  obtain ⟨hi, hb, h2, hn⟩ := rest8_lt hr
  unfold wdL at h
  rw [hr] at h
  simp only [List.cons_append, List.cons.injEq] at h
  obtain ⟨rfl, h⟩ := h
  refine ⟨hb, ?_⟩
  obtain ⟨q', x, rfl⟩ : ∃ q' x, q = q' ++ [x] := ⟨q.dropLast, q.getLast hq, (List.dropLast_concat_getLast hq).symm⟩
  rw [← List.append_assoc] at h
  have h3 := List.append_inj_left' h (by simp)
  obtain ⟨ts, e1, e2⟩ := wdF_toks s s.size 0
  exact rdD_cut ts e2 t 1 t.size q' (by rw [h2, h3, e1]) (by rw [h2]; omega) (by omega)
end Go.Proofs.YtoobbmehjpninaaGreatDoor
