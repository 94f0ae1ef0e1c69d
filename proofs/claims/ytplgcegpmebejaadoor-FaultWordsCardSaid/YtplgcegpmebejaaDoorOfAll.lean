/- The walk of Of, over any way. -/
import Derived.Test.YtplgcegpmebejaaDoorOf
namespace Go.Proofs.YtplgcegpmebejaaDoor
open Go.RowKit

def faultV (c a : Int) : Value := .iface 35 (.agg #[.int .i64 c, .int .i64 a])
def numV (c : Int) : Value := .iface 33 (.int .i64 c)
theorem asF_fault (c a : Int) (l : List (ByteArray × Int)) : AsF (wv (faultV c a) l) (some (c, a)) := by
  induction l with
  | nil => exact AsF.fault c a
  | cons s l ih => exact AsF.step _ _ _ _ ih
theorem asF_num (c : Int) (l : List (ByteArray × Int)) : AsF (wv (numV c) l) none := by
  induction l with
  | nil => exact AsF.num c
  | cons s l ih => exact AsF.step _ _ _ _ ih
theorem asF_nil (l : List (ByteArray × Int)) (h : l ≠ []) : AsF (wv .nilIface l) none := by
  induction l with
  | nil => exact absurd rfl h
  | cons s l ih =>
    cases l with
    | nil => exact AsF.last _ _
    | cons t l => exact AsF.step _ _ _ _ (ih (by simp))
theorem asN_num (c : Int) (l : List (ByteArray × Int)) : AsN (wv (numV c) l) (some c) := by
  induction l with
  | nil => exact AsN.num c
  | cons s l ih => exact AsN.step _ _ _ _ ih
theorem asN_nil (l : List (ByteArray × Int)) (h : l ≠ []) : AsN (wv .nilIface l) none := by
  induction l with
  | nil => exact absurd rfl h
  | cons s l ih =>
    cases l with
    | nil => exact AsN.last _ _
    | cons t l => exact AsN.step _ _ _ _ (ih (by simp))
theorem isCh_fault (n c a : Int) (l : List (ByteArray × Int)) : IsCh n (wv (faultV c a) l) (c == n) := by
  induction l with
  | nil => exact IsCh.fault c a
  | cons s l ih => exact IsCh.step _ _ _ _ ih
theorem isCh_num (n c : Int) (l : List (ByteArray × Int)) : IsCh n (wv (numV c) l) (c == n) := by
  induction l with
  | nil => exact IsCh.num c
  | cons s l ih => exact IsCh.step _ _ _ _ ih
theorem isCh_nil (n : Int) (l : List (ByteArray × Int)) (h : l ≠ []) : IsCh n (wv .nilIface l) false := by
  induction l with
  | nil => exact absurd rfl h
  | cons s l ih =>
    cases l with
    | nil => exact IsCh.last _ _
    | cons t l => exact IsCh.step _ _ _ _ (ih (by simp))
theorem end_fault (c a : Int) : EndV (faultV c a) := .inl ⟨c, a, rfl⟩
theorem end_num (c : Int) : EndV (numV c) := .inr (.inl ⟨c, rfl⟩)
theorem end_nil : EndV .nilIface := .inr (.inr rfl)

set_option maxHeartbeats 1000000 in
theorem of_nil (w : World) :
    Calls Tryd.prog 11 #[.nilIface] w fun e w' => e = .returned (.agg #[.int .i64 0, .int .i64 0]) ∧ Below w.heap.size w w' := by
  go_enter Tryd.func11, Tryd.ntmps11
  go_wp2
  refine bodyPost_ret (v := .agg #[.int .i64 0, .int .i64 0]) (by simp [results, Tryd.results11, go_sem]) rfl ⟨rfl, ?_⟩
  exact ((Below.refl _ _).alloc (Nat.le_refl _) _)

set_option maxRecDepth 100000 in
set_option maxHeartbeats 2000000 in
theorem of_fault (c a : Int) (l : List (ByteArray × Int)) (w : World) (hg : ErrVar w) :
    Calls Tryd.prog 11 #[wv (faultV c a) l] w fun e w' => e = .returned (.agg #[.int .i64 c, .int .i64 a]) ∧ Below w.heap.size w w' := by
  have hch := asF_fault c a l
  obtain ⟨u, v, hE⟩ := hch.form
  rw [hE] at hch ⊢
  have hb1 : Below w.heap.size w ((w.alloc (.cells #[.int .i64 0, .int .i64 0] 35)).alloc (.cells #[.int .i64 0, .int .i64 0] 35)) := ((Below.refl _ _).alloc (Nat.le_refl _) _).alloc (by simp) _
  have hg1 := hg.below hb1 hg.pos
  have HG := Lib.hid hg1
  have HC := Lib.hid hch
  clear hg hch hE hg1
  go_enter Tryd.func11, Tryd.ntmps11
  go_wp2_with fail
  refine (errorsAsF_some _ c a HC.out (w.heap.size + 1) 0 0 _ HG.out (by simp) (by simp) (by simp) (by simp) (by simp)).mono ?_
  rintro e w2 ⟨rfl, h0, h1, hb⟩
  have hz := hb.size
  simp only [World.size_alloc] at hz
  have r0 : w2.cell? ⟨w.heap.size, 0, none⟩ = some (.int .i64 0) := by rw [hb.cell (p := ⟨w.heap.size, 0, none⟩) (by simp), World.cell?_alloc_lt _ _ _ (by simp)]; simp
  have r1 : w2.cell? ⟨w.heap.size, 1, none⟩ = some (.int .i64 0) := by rw [hb.cell (p := ⟨w.heap.size, 1, none⟩) (by simp), World.cell?_alloc_lt _ _ _ (by simp)]; simp
  have f0 : w2.frozen? ⟨w.heap.size, 0, none⟩ = false := by rw [hb.frozen (p := ⟨w.heap.size, 0, none⟩) (by simp)]; simp
  have f1 : w2.frozen? ⟨w.heap.size, 1, none⟩ = false := by rw [hb.frozen (p := ⟨w.heap.size, 1, none⟩) (by simp)]; simp
  have hbz : Below w.heap.size w w2 := hb1.trans (hb.mono (by omega))
  go_wp2
  refine bodyPost_ret (v := .agg #[.int .i64 c, .int .i64 a]) (by simp [results, Tryd.results11, go_sem, r0, r1]) rfl ⟨rfl, ?_⟩
  exact (hbz.setCell (Nat.le_refl _) _).setCell (Nat.le_refl _) _

set_option maxRecDepth 100000 in
set_option maxHeartbeats 2000000 in
theorem of_num (c : Int) (l : List (ByteArray × Int)) (hl : l.length ≤ 1000) (w : World) (hg : ErrVar w) :
    Calls Tryd.prog 11 #[wv (numV c) l] w fun e w' => e = .returned (.agg #[.int .i64 c, .int .i64 (inn l)]) ∧ Below w.heap.size w w' := by
  have hchF := asF_num c l
  have hchN := asN_num c l
  obtain ⟨u, v, hE⟩ := hchF.form
  have hin := fun w => innermost_any (numV c) (end_num c) l hl w
  rw [hE] at hchF hchN hin ⊢
  have hb1 : Below w.heap.size w ((w.alloc (.cells #[.int .i64 0, .int .i64 0] 35)).alloc (.cells #[.int .i64 0, .int .i64 0] 35)) := ((Below.refl _ _).alloc (Nat.le_refl _) _).alloc (by simp) _
  have hg1 := hg.below hb1 hg.pos
  have hp := hg.pos
  have HG := Lib.hid hg1
  have HF := Lib.hid hchF
  have HN := Lib.hid hchN
  have HI := Lib.hid hin
  clear hg hchF hchN hE hg1 hin
  go_enter Tryd.func11, Tryd.ntmps11
  go_wp2_with fail
  refine (errorsAsF_none _ HF.out (w.heap.size + 1) _ HG.out).mono ?_
  rintro e w2 ⟨rfl, hb⟩
  have hz := hb.size
  simp only [World.size_alloc] at hz
  have hg2 := HG.out.below hb (by simp)
  have r0 : w2.cell? ⟨w.heap.size, 0, none⟩ = some (.int .i64 0) := by rw [hb.cell (p := ⟨w.heap.size, 0, none⟩) (by simp; omega), World.cell?_alloc_lt _ _ _ (by simp)]; simp
  have r1 : w2.cell? ⟨w.heap.size, 1, none⟩ = some (.int .i64 0) := by rw [hb.cell (p := ⟨w.heap.size, 1, none⟩) (by simp; omega), World.cell?_alloc_lt _ _ _ (by simp)]; simp
  have f0 : w2.frozen? ⟨w.heap.size, 0, none⟩ = false := by rw [hb.frozen (p := ⟨w.heap.size, 0, none⟩) (by simp; omega)]; simp
  have f1 : w2.frozen? ⟨w.heap.size, 1, none⟩ = false := by rw [hb.frozen (p := ⟨w.heap.size, 1, none⟩) (by simp; omega)]; simp
  have hbz : Below w.heap.size w w2 := hb1.trans (hb.mono (by simp; omega))
  have hg3 : ErrVar (w2.alloc (.cells #[.int .i64 0] 33)) := hg2.below ((Below.refl w2.heap.size w2).alloc (Nat.le_refl _) _) hg2.pos
  have HG3 := Lib.hid hg3
  have R0 := Lib.hid r0
  have R1 := Lib.hid r1
  have F0 := Lib.hid f0
  have F1 := Lib.hid f1
  clear hb hb1 hg2 hg3 HG r0 r1 f0 f1
  go_wp2_with fail
  refine (errorsAsN_some _ c HN.out w2.heap.size 0 _ HG3.out (by simp) (by simp) (by simp)).mono ?_
  rintro e w3 ⟨rfl, h0, hb3⟩
  have hz3 := hb3.size
  have r0 : w3.cell? ⟨w.heap.size, 0, none⟩ = some (.int .i64 0) := by rw [hb3.cell (p := ⟨w.heap.size, 0, none⟩) (by show w.heap.size < _; omega), World.cell?_alloc_lt _ _ _ (by show w.heap.size < _; omega)]; exact R0.out
  have r1 : w3.cell? ⟨w.heap.size, 1, none⟩ = some (.int .i64 0) := by rw [hb3.cell (p := ⟨w.heap.size, 1, none⟩) (by show w.heap.size < _; omega), World.cell?_alloc_lt _ _ _ (by show w.heap.size < _; omega)]; exact R1.out
  have f0 : w3.frozen? ⟨w.heap.size, 0, none⟩ = false := by rw [hb3.frozen (p := ⟨w.heap.size, 0, none⟩) (by show w.heap.size < _; omega), World.frozen?_alloc_old _ _ _ (by show w.heap.size ≠ _; omega)]; exact F0.out
  have f1 : w3.frozen? ⟨w.heap.size, 1, none⟩ = false := by rw [hb3.frozen (p := ⟨w.heap.size, 1, none⟩) (by show w.heap.size < _; omega), World.frozen?_alloc_old _ _ _ (by show w.heap.size ≠ _; omega)]; exact F1.out
  have hb4 : Below w.heap.size w w3 := (hbz.alloc (by omega) _).trans (hb3.mono (by omega))
  simp only [World.size_alloc] at hz3
  clear hb3 hbz R0 R1 F0 F1
  go_wp2_with fail
  refine (HI.out _).mono ?_
  rintro e w4 ⟨rfl, hb5⟩
  have s0 : w4.cell? ⟨w.heap.size, 0, none⟩ = some (.int .i64 0) := by rw [hb5.cell (p := ⟨w.heap.size, 0, none⟩) (by show w.heap.size < _; omega)]; exact r0
  have s1 : w4.cell? ⟨w.heap.size, 1, none⟩ = some (.int .i64 0) := by rw [hb5.cell (p := ⟨w.heap.size, 1, none⟩) (by show w.heap.size < _; omega)]; exact r1
  have t0 : w4.frozen? ⟨w.heap.size, 0, none⟩ = false := by rw [hb5.frozen (p := ⟨w.heap.size, 0, none⟩) (by show w.heap.size < _; omega)]; exact f0
  have t1 : w4.frozen? ⟨w.heap.size, 1, none⟩ = false := by rw [hb5.frozen (p := ⟨w.heap.size, 1, none⟩) (by show w.heap.size < _; omega)]; exact f1
  have hb6 : Below w.heap.size w w4 := hb4.trans (hb5.mono hb4.size)
  clear hb4 hb5 r0 r1 f0 f1
  go_wp2
  refine bodyPost_ret (v := .agg #[.int .i64 c, .int .i64 (inn l)]) (by simp [results, Tryd.results11, go_sem, s0, s1]) rfl ⟨rfl, ?_⟩
  exact (hb6.setCell (Nat.le_refl _) _).setCell (Nat.le_refl _) _

set_option maxRecDepth 100000 in
set_option maxHeartbeats 2000000 in
theorem of_last (l : List (ByteArray × Int)) (hne : l ≠ []) (hl : l.length ≤ 1000) (w : World) (hg : ErrVar w) :
    Calls Tryd.prog 11 #[wv .nilIface l] w fun e w' => e = .returned (.agg #[.int .i64 21, .int .i64 (inn l)]) ∧ Below w.heap.size w w' := by
  have hchF := asF_nil l hne
  have hchN := asN_nil l hne
  obtain ⟨u, v, hE⟩ := hchF.form
  have hin := fun w => innermost_any .nilIface end_nil l hl w
  rw [hE] at hchF hchN hin ⊢
  have hb1 : Below w.heap.size w ((w.alloc (.cells #[.int .i64 0, .int .i64 0] 35)).alloc (.cells #[.int .i64 0, .int .i64 0] 35)) := ((Below.refl _ _).alloc (Nat.le_refl _) _).alloc (by simp) _
  have hg1 := hg.below hb1 hg.pos
  have hp := hg.pos
  have HG := Lib.hid hg1
  have HF := Lib.hid hchF
  have HN := Lib.hid hchN
  have HI := Lib.hid hin
  clear hg hchF hchN hE hg1 hin
  go_enter Tryd.func11, Tryd.ntmps11
  go_wp2_with fail
  refine (errorsAsF_none _ HF.out (w.heap.size + 1) _ HG.out).mono ?_
  rintro e w2 ⟨rfl, hb⟩
  have hz := hb.size
  simp only [World.size_alloc] at hz
  have hg2 := HG.out.below hb (by simp)
  have r0 : w2.cell? ⟨w.heap.size, 0, none⟩ = some (.int .i64 0) := by rw [hb.cell (p := ⟨w.heap.size, 0, none⟩) (by simp; omega), World.cell?_alloc_lt _ _ _ (by simp)]; simp
  have r1 : w2.cell? ⟨w.heap.size, 1, none⟩ = some (.int .i64 0) := by rw [hb.cell (p := ⟨w.heap.size, 1, none⟩) (by simp; omega), World.cell?_alloc_lt _ _ _ (by simp)]; simp
  have f0 : w2.frozen? ⟨w.heap.size, 0, none⟩ = false := by rw [hb.frozen (p := ⟨w.heap.size, 0, none⟩) (by simp; omega)]; simp
  have f1 : w2.frozen? ⟨w.heap.size, 1, none⟩ = false := by rw [hb.frozen (p := ⟨w.heap.size, 1, none⟩) (by simp; omega)]; simp
  have hbz : Below w.heap.size w w2 := hb1.trans (hb.mono (by simp; omega))
  have hg3 : ErrVar (w2.alloc (.cells #[.int .i64 0] 33)) := hg2.below ((Below.refl w2.heap.size w2).alloc (Nat.le_refl _) _) hg2.pos
  have HG3 := Lib.hid hg3
  have R0 := Lib.hid r0
  have R1 := Lib.hid r1
  have F0 := Lib.hid f0
  have F1 := Lib.hid f1
  clear hb hb1 hg2 hg3 HG r0 r1 f0 f1
  go_wp2_with fail
  refine (errorsAsN_none _ HN.out w2.heap.size _ HG3.out).mono ?_
  rintro e w3 ⟨rfl, hb3⟩
  have hz3 := hb3.size
  have r0 : w3.cell? ⟨w.heap.size, 0, none⟩ = some (.int .i64 0) := by rw [hb3.cell (p := ⟨w.heap.size, 0, none⟩) (by show w.heap.size < _; simp; omega), World.cell?_alloc_lt _ _ _ (by show w.heap.size < _; omega)]; exact R0.out
  have r1 : w3.cell? ⟨w.heap.size, 1, none⟩ = some (.int .i64 0) := by rw [hb3.cell (p := ⟨w.heap.size, 1, none⟩) (by show w.heap.size < _; simp; omega), World.cell?_alloc_lt _ _ _ (by show w.heap.size < _; omega)]; exact R1.out
  have f0 : w3.frozen? ⟨w.heap.size, 0, none⟩ = false := by rw [hb3.frozen (p := ⟨w.heap.size, 0, none⟩) (by show w.heap.size < _; simp; omega), World.frozen?_alloc_old _ _ _ (by show w.heap.size ≠ _; omega)]; exact F0.out
  have f1 : w3.frozen? ⟨w.heap.size, 1, none⟩ = false := by rw [hb3.frozen (p := ⟨w.heap.size, 1, none⟩) (by show w.heap.size < _; simp; omega), World.frozen?_alloc_old _ _ _ (by show w.heap.size ≠ _; omega)]; exact F1.out
  have hb4 : Below w.heap.size w w3 := (hbz.alloc (by omega) _).trans (hb3.mono (by simp; omega))
  simp only [World.size_alloc] at hz3
  clear hb3 hbz R0 R1 F0 F1
  go_wp2_with fail
  refine (HI.out _).mono ?_
  rintro e w4 ⟨rfl, hb5⟩
  have s0 : w4.cell? ⟨w.heap.size, 0, none⟩ = some (.int .i64 0) := by rw [hb5.cell (p := ⟨w.heap.size, 0, none⟩) (by show w.heap.size < _; omega)]; exact r0
  have s1 : w4.cell? ⟨w.heap.size, 1, none⟩ = some (.int .i64 0) := by rw [hb5.cell (p := ⟨w.heap.size, 1, none⟩) (by show w.heap.size < _; omega)]; exact r1
  have t0 : w4.frozen? ⟨w.heap.size, 0, none⟩ = false := by rw [hb5.frozen (p := ⟨w.heap.size, 0, none⟩) (by show w.heap.size < _; omega)]; exact f0
  have t1 : w4.frozen? ⟨w.heap.size, 1, none⟩ = false := by rw [hb5.frozen (p := ⟨w.heap.size, 1, none⟩) (by show w.heap.size < _; omega)]; exact f1
  have hb6 : Below w.heap.size w w4 := hb4.trans (hb5.mono hb4.size)
  clear hb4 hb5 r0 r1 f0 f1
  go_wp2
  refine bodyPost_ret (v := .agg #[.int .i64 21, .int .i64 (inn l)]) (by simp [results, Tryd.results11, go_sem, s0, s1]) rfl ⟨rfl, ?_⟩
  exact (hb6.setCell (Nat.le_refl _) _).setCell (Nat.le_refl _) _
end Go.Proofs.YtplgcegpmebejaaDoor
