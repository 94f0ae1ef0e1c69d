/- errors.As over any way, at a fault and at a number. -/
import Derived.Test.YtplgcegpmebejaaDoorAsSome
namespace Go.Proofs.YtplgcegpmebejaaDoor
open Go.RowKit Go.Extern.Stop Go.Stop Go.Extern

/-- The library's variable that errors.As asks holds the type error. -/
def ErrVar (w : World) : Prop := w.cell? ⟨0, 0, none⟩ = some (.iface 73 (.agg #[.pointer (some ⟨1, 38, none⟩)]))
theorem cell_pos {w : World} {p : Addr} {v : Value} (h : w.cell? p = some v) : p.block < w.heap.size := World.block_lt_of_cell? w p h
theorem ErrVar.below {w w' : World} {B : Nat} (h : ErrVar w) (hb : Below B w w') (hB : 0 < B) : ErrVar w' := by
  unfold ErrVar at *; rw [hb.cell (p := ⟨0, 0, none⟩) hB]; exact h
theorem ErrVar.pos {w : World} (h : ErrVar w) : 0 < w.heap.size := cell_pos h

set_option maxHeartbeats 1000000 in
theorem errorsAs_nil (x : Value) (w : World) : Calls Tryd.prog 21 #[.nilIface, x] w fun e w' => e = .returned (.bool false) ∧ Below w.heap.size w w' := by
  go_enter Tryd.func21, Tryd.ntmps21
  go_wp2
  go_ret
  exact ⟨rfl, Below.refl _ _⟩

set_option maxRecDepth 100000 in
set_option maxHeartbeats 4000000 in
theorem errorsAsF_none (E : Value) (hE : AsF E none) (tb : Nat) (w : World) (hg : ErrVar w) :
    Calls Tryd.prog 21 #[E, .iface 53 (.pointer (some ⟨tb, 0, none⟩))] w fun e w' => e = .returned (.bool false) ∧ Below w.heap.size w w' := by
  have xeVal := @run_callFunc_extern Tryd.prog 26 _ eVal Tryd.func26 (by kernel_rfl) (by kernel_rfl) (by kernel_rfl) (by kernel_rfl)
  have xeVType := @run_callFunc_extern Tryd.prog 27 _ eVType Tryd.func27 (by kernel_rfl) (by kernel_rfl) (by kernel_rfl) (by kernel_rfl)
  have xeVNil := @run_callFunc_extern Tryd.prog 28 _ eVNil Tryd.func28 (by kernel_rfl) (by kernel_rfl) (by kernel_rfl) (by kernel_rfl)
  have xeKind := @run_callFunc_extern Tryd.prog 48 _ eKind Tryd.func48 (by kernel_rfl) (by kernel_rfl) (by kernel_rfl) (by kernel_rfl)
  have xeElem := @run_callFunc_extern Tryd.prog 60 _ eElem Tryd.func60 (by kernel_rfl) (by kernel_rfl) (by kernel_rfl) (by kernel_rfl)
  have xeImpl := @run_callFunc_extern Tryd.prog 61 _ eImpl Tryd.func61 (by kernel_rfl) (by kernel_rfl) (by kernel_rfl) (by kernel_rfl)
  have qvtyF := vtyF
  have qkdPF := kdPF
  have qkdTF := kdTF
  have qelF := elF
  have qimF := imF
  have qval := valF ⟨tb, 0, none⟩ w
  have m1 := mKind
  have m2 := mElem
  have m3 := mImplements
  simp only [sizeTypes, Nat.reduceAdd] at m1 m2 m3
  have hlt := hg.pos
  have hg2 : ((w.alloc (.cells #[.pointer (some ⟨tb, 0, none⟩)] 53)).alloc (.cells #[.pointer (some ⟨1, 53, none⟩), .pointer (some ⟨w.heap.size, 0, none⟩), .int .u64 150] 61)).cell? ⟨0, 0, none⟩ = some (.iface 73 (.agg #[.pointer (some ⟨1, 38, none⟩)])) := by
    rw [World.cell?_alloc_lt _ _ ⟨0, 0, none⟩ (by simp), World.cell?_alloc_lt _ _ ⟨0, 0, none⟩ hlt]; exact hg
  have qn := nilF ⟨w.heap.size, 0, none⟩ ⟨tb, 0, none⟩ ((w.alloc (.cells #[.pointer (some ⟨tb, 0, none⟩)] 53)).alloc (.cells #[.pointer (some ⟨1, 53, none⟩), .pointer (some ⟨w.heap.size, 0, none⟩), .int .u64 150] 61)) (by rw [World.cell?_alloc_lt _ _ _ (by simp)]; simp)
  have hb1 : Below w.heap.size w ((w.alloc (.cells #[.pointer (some ⟨tb, 0, none⟩)] 53)).alloc (.cells #[.pointer (some ⟨1, 53, none⟩), .pointer (some ⟨w.heap.size, 0, none⟩), .int .u64 150] 61)) := ((Below.refl _ _).alloc (Nat.le_refl _) _).alloc (by simp) _
  obtain ⟨u, v, rfl⟩ := hE.form
  have H := Lib.hid hE
  clear hE hg
  go_enter Tryd.func21, Tryd.ntmps21
  go_wp2_with fail
  refine (asF_none _ H.out tb ⟨w.heap.size, 0, none⟩ _).mono ?_
  rintro e w' ⟨rfl, hb⟩
  go_wp2
  go_ret
  exact ⟨rfl, hb1.trans (hb.mono hb1.size)⟩

set_option maxRecDepth 100000 in
set_option maxHeartbeats 4000000 in
theorem errorsAsN_none (E : Value) (hE : AsN E none) (tb : Nat) (w : World) (hg : ErrVar w) :
    Calls Tryd.prog 21 #[E, .iface 54 (.pointer (some ⟨tb, 0, none⟩))] w fun e w' => e = .returned (.bool false) ∧ Below w.heap.size w w' := by
  have xeVal := @run_callFunc_extern Tryd.prog 26 _ eVal Tryd.func26 (by kernel_rfl) (by kernel_rfl) (by kernel_rfl) (by kernel_rfl)
  have xeVType := @run_callFunc_extern Tryd.prog 27 _ eVType Tryd.func27 (by kernel_rfl) (by kernel_rfl) (by kernel_rfl) (by kernel_rfl)
  have xeVNil := @run_callFunc_extern Tryd.prog 28 _ eVNil Tryd.func28 (by kernel_rfl) (by kernel_rfl) (by kernel_rfl) (by kernel_rfl)
  have xeKind := @run_callFunc_extern Tryd.prog 48 _ eKind Tryd.func48 (by kernel_rfl) (by kernel_rfl) (by kernel_rfl) (by kernel_rfl)
  have xeElem := @run_callFunc_extern Tryd.prog 60 _ eElem Tryd.func60 (by kernel_rfl) (by kernel_rfl) (by kernel_rfl) (by kernel_rfl)
  have xeImpl := @run_callFunc_extern Tryd.prog 61 _ eImpl Tryd.func61 (by kernel_rfl) (by kernel_rfl) (by kernel_rfl) (by kernel_rfl)
  have qvtyN := vtyN
  have qkdPN := kdPN
  have qkdTN := kdTN
  have qelN := elN
  have qimN := imN
  have qval := valN ⟨tb, 0, none⟩ w
  have m1 := mKind
  have m2 := mElem
  have m3 := mImplements
  simp only [sizeTypes, Nat.reduceAdd] at m1 m2 m3
  have hlt := hg.pos
  have hg2 : ((w.alloc (.cells #[.pointer (some ⟨tb, 0, none⟩)] 54)).alloc (.cells #[.pointer (some ⟨1, 54, none⟩), .pointer (some ⟨w.heap.size, 0, none⟩), .int .u64 150] 61)).cell? ⟨0, 0, none⟩ = some (.iface 73 (.agg #[.pointer (some ⟨1, 38, none⟩)])) := by
    rw [World.cell?_alloc_lt _ _ ⟨0, 0, none⟩ (by simp), World.cell?_alloc_lt _ _ ⟨0, 0, none⟩ hlt]; exact hg
  have qn := nilN ⟨w.heap.size, 0, none⟩ ⟨tb, 0, none⟩ ((w.alloc (.cells #[.pointer (some ⟨tb, 0, none⟩)] 54)).alloc (.cells #[.pointer (some ⟨1, 54, none⟩), .pointer (some ⟨w.heap.size, 0, none⟩), .int .u64 150] 61)) (by rw [World.cell?_alloc_lt _ _ _ (by simp)]; simp)
  have hb1 : Below w.heap.size w ((w.alloc (.cells #[.pointer (some ⟨tb, 0, none⟩)] 54)).alloc (.cells #[.pointer (some ⟨1, 54, none⟩), .pointer (some ⟨w.heap.size, 0, none⟩), .int .u64 150] 61)) := ((Below.refl _ _).alloc (Nat.le_refl _) _).alloc (by simp) _
  obtain ⟨u, v, rfl⟩ := hE.form
  have H := Lib.hid hE
  clear hE hg
  go_enter Tryd.func21, Tryd.ntmps21
  go_wp2_with fail
  refine (asN_none _ H.out tb ⟨w.heap.size, 0, none⟩ _).mono ?_
  rintro e w' ⟨rfl, hb⟩
  go_wp2
  go_ret
  exact ⟨rfl, hb1.trans (hb.mono hb1.size)⟩

set_option maxRecDepth 100000 in
set_option maxHeartbeats 4000000 in
theorem errorsAsF_some (E : Value) (c a : Int) (hE : AsF E (some (c, a))) (tb : Nat) (x0 y0 : Int) (w : World) (hg : ErrVar w) (htl : tb < w.heap.size) (ht : w.cell? ⟨tb, 0, none⟩ = some (.int .i64 x0)) (ht1 : w.cell? ⟨tb, 1, none⟩ = some (.int .i64 y0)) (hf : w.frozen? ⟨tb, 0, none⟩ = false) (hf1 : w.frozen? ⟨tb, 1, none⟩ = false) :
    Calls Tryd.prog 21 #[E, .iface 53 (.pointer (some ⟨tb, 0, none⟩))] w (FoundF tb c a w) := by
  have xeVal := @run_callFunc_extern Tryd.prog 26 _ eVal Tryd.func26 (by kernel_rfl) (by kernel_rfl) (by kernel_rfl) (by kernel_rfl)
  have xeVType := @run_callFunc_extern Tryd.prog 27 _ eVType Tryd.func27 (by kernel_rfl) (by kernel_rfl) (by kernel_rfl) (by kernel_rfl)
  have xeVNil := @run_callFunc_extern Tryd.prog 28 _ eVNil Tryd.func28 (by kernel_rfl) (by kernel_rfl) (by kernel_rfl) (by kernel_rfl)
  have xeKind := @run_callFunc_extern Tryd.prog 48 _ eKind Tryd.func48 (by kernel_rfl) (by kernel_rfl) (by kernel_rfl) (by kernel_rfl)
  have xeElem := @run_callFunc_extern Tryd.prog 60 _ eElem Tryd.func60 (by kernel_rfl) (by kernel_rfl) (by kernel_rfl) (by kernel_rfl)
  have xeImpl := @run_callFunc_extern Tryd.prog 61 _ eImpl Tryd.func61 (by kernel_rfl) (by kernel_rfl) (by kernel_rfl) (by kernel_rfl)
  have qvtyF := vtyF
  have qkdPF := kdPF
  have qkdTF := kdTF
  have qelF := elF
  have qimF := imF
  have qval := valF ⟨tb, 0, none⟩ w
  have m1 := mKind
  have m2 := mElem
  have m3 := mImplements
  simp only [sizeTypes, Nat.reduceAdd] at m1 m2 m3
  have hlt := hg.pos
  have hg2 : ((w.alloc (.cells #[.pointer (some ⟨tb, 0, none⟩)] 53)).alloc (.cells #[.pointer (some ⟨1, 53, none⟩), .pointer (some ⟨w.heap.size, 0, none⟩), .int .u64 150] 61)).cell? ⟨0, 0, none⟩ = some (.iface 73 (.agg #[.pointer (some ⟨1, 38, none⟩)])) := by
    rw [World.cell?_alloc_lt _ _ ⟨0, 0, none⟩ (by simp), World.cell?_alloc_lt _ _ ⟨0, 0, none⟩ hlt]; exact hg
  have qn := nilF ⟨w.heap.size, 0, none⟩ ⟨tb, 0, none⟩ ((w.alloc (.cells #[.pointer (some ⟨tb, 0, none⟩)] 53)).alloc (.cells #[.pointer (some ⟨1, 53, none⟩), .pointer (some ⟨w.heap.size, 0, none⟩), .int .u64 150] 61)) (by rw [World.cell?_alloc_lt _ _ _ (by simp)]; simp)
  have hvb : ((w.alloc (.cells #[.pointer (some ⟨tb, 0, none⟩)] 53)).alloc (.cells #[.pointer (some ⟨1, 53, none⟩), .pointer (some ⟨w.heap.size, 0, none⟩), .int .u64 150] 61)).cell? ⟨w.heap.size, 0, none⟩ = some (.pointer (some ⟨tb, 0, none⟩)) := by rw [World.cell?_alloc_lt _ _ _ (by simp)]; simp
  have HVB := Lib.hid hvb
  clear hvb
  have hb1 : Below w.heap.size w ((w.alloc (.cells #[.pointer (some ⟨tb, 0, none⟩)] 53)).alloc (.cells #[.pointer (some ⟨1, 53, none⟩), .pointer (some ⟨w.heap.size, 0, none⟩), .int .u64 150] 61)) := ((Below.refl _ _).alloc (Nat.le_refl _) _).alloc (by simp) _
  obtain ⟨u, v, rfl⟩ := hE.form
  have H := Lib.hid hE
  clear hE hg
  have HT := Lib.hid ht
  have HT1 := Lib.hid ht1
  have HF := Lib.hid hf
  have HF1 := Lib.hid hf1
  clear ht ht1 hf hf1
  go_enter Tryd.func21, Tryd.ntmps21
  go_wp2_with fail
  refine (asF_some _ c a H.out tb ⟨w.heap.size, 0, none⟩ x0 y0 _ (by simp; omega) (by simp; omega) HVB.out ?_ ?_ ?_ ?_).mono ?_
  · rw [World.cell?_alloc_lt _ _ _ (by simp; omega), World.cell?_alloc_lt _ _ _ htl]; exact HT.out
  · rw [World.cell?_alloc_lt _ _ _ (by simp; omega), World.cell?_alloc_lt _ _ _ htl]; exact HT1.out
  · rw [World.frozen?_alloc_old _ _ _ (by simp; omega), World.frozen?_alloc_old _ _ _ (by show tb ≠ _; omega)]; exact HF.out
  · rw [World.frozen?_alloc_old _ _ _ (by simp; omega), World.frozen?_alloc_old _ _ _ (by show tb ≠ _; omega)]; exact HF1.out
  rintro e w' ⟨rfl, h0, h1, hb⟩
  have H0 := Lib.hid h0
  have H1 := Lib.hid h1
  clear h0 h1
  go_wp2
  go_ret
  exact ⟨rfl, H0.out, H1.out, (hb1.mono (Nat.le_of_lt htl)).trans hb⟩

set_option maxRecDepth 100000 in
set_option maxHeartbeats 4000000 in
theorem errorsAsN_some (E : Value) (c : Int) (hE : AsN E (some c)) (tb : Nat) (x0 : Int) (w : World) (hg : ErrVar w) (htl : tb < w.heap.size) (ht : w.cell? ⟨tb, 0, none⟩ = some (.int .i64 x0)) (hf : w.frozen? ⟨tb, 0, none⟩ = false) :
    Calls Tryd.prog 21 #[E, .iface 54 (.pointer (some ⟨tb, 0, none⟩))] w (FoundN tb c w) := by
  have xeVal := @run_callFunc_extern Tryd.prog 26 _ eVal Tryd.func26 (by kernel_rfl) (by kernel_rfl) (by kernel_rfl) (by kernel_rfl)
  have xeVType := @run_callFunc_extern Tryd.prog 27 _ eVType Tryd.func27 (by kernel_rfl) (by kernel_rfl) (by kernel_rfl) (by kernel_rfl)
  have xeVNil := @run_callFunc_extern Tryd.prog 28 _ eVNil Tryd.func28 (by kernel_rfl) (by kernel_rfl) (by kernel_rfl) (by kernel_rfl)
  have xeKind := @run_callFunc_extern Tryd.prog 48 _ eKind Tryd.func48 (by kernel_rfl) (by kernel_rfl) (by kernel_rfl) (by kernel_rfl)
  have xeElem := @run_callFunc_extern Tryd.prog 60 _ eElem Tryd.func60 (by kernel_rfl) (by kernel_rfl) (by kernel_rfl) (by kernel_rfl)
  have xeImpl := @run_callFunc_extern Tryd.prog 61 _ eImpl Tryd.func61 (by kernel_rfl) (by kernel_rfl) (by kernel_rfl) (by kernel_rfl)
  have qvtyN := vtyN
  have qkdPN := kdPN
  have qkdTN := kdTN
  have qelN := elN
  have qimN := imN
  have qval := valN ⟨tb, 0, none⟩ w
  have m1 := mKind
  have m2 := mElem
  have m3 := mImplements
  simp only [sizeTypes, Nat.reduceAdd] at m1 m2 m3
  have hlt := hg.pos
  have hg2 : ((w.alloc (.cells #[.pointer (some ⟨tb, 0, none⟩)] 54)).alloc (.cells #[.pointer (some ⟨1, 54, none⟩), .pointer (some ⟨w.heap.size, 0, none⟩), .int .u64 150] 61)).cell? ⟨0, 0, none⟩ = some (.iface 73 (.agg #[.pointer (some ⟨1, 38, none⟩)])) := by
    rw [World.cell?_alloc_lt _ _ ⟨0, 0, none⟩ (by simp), World.cell?_alloc_lt _ _ ⟨0, 0, none⟩ hlt]; exact hg
  have qn := nilN ⟨w.heap.size, 0, none⟩ ⟨tb, 0, none⟩ ((w.alloc (.cells #[.pointer (some ⟨tb, 0, none⟩)] 54)).alloc (.cells #[.pointer (some ⟨1, 54, none⟩), .pointer (some ⟨w.heap.size, 0, none⟩), .int .u64 150] 61)) (by rw [World.cell?_alloc_lt _ _ _ (by simp)]; simp)
  have hvb : ((w.alloc (.cells #[.pointer (some ⟨tb, 0, none⟩)] 54)).alloc (.cells #[.pointer (some ⟨1, 54, none⟩), .pointer (some ⟨w.heap.size, 0, none⟩), .int .u64 150] 61)).cell? ⟨w.heap.size, 0, none⟩ = some (.pointer (some ⟨tb, 0, none⟩)) := by rw [World.cell?_alloc_lt _ _ _ (by simp)]; simp
  have HVB := Lib.hid hvb
  clear hvb
  have hb1 : Below w.heap.size w ((w.alloc (.cells #[.pointer (some ⟨tb, 0, none⟩)] 54)).alloc (.cells #[.pointer (some ⟨1, 54, none⟩), .pointer (some ⟨w.heap.size, 0, none⟩), .int .u64 150] 61)) := ((Below.refl _ _).alloc (Nat.le_refl _) _).alloc (by simp) _
  obtain ⟨u, v, rfl⟩ := hE.form
  have H := Lib.hid hE
  clear hE hg
  have HT := Lib.hid ht
  have HF := Lib.hid hf
  clear ht hf
  go_enter Tryd.func21, Tryd.ntmps21
  go_wp2_with fail
  refine (asN_some _ c H.out tb ⟨w.heap.size, 0, none⟩ x0 _ (by simp; omega) (by simp; omega) HVB.out ?_ ?_).mono ?_
  · rw [World.cell?_alloc_lt _ _ _ (by simp; omega), World.cell?_alloc_lt _ _ _ htl]; exact HT.out
  · rw [World.frozen?_alloc_old _ _ _ (by simp; omega), World.frozen?_alloc_old _ _ _ (by show tb ≠ _; omega)]; exact HF.out
  rintro e w' ⟨rfl, h0, hb⟩
  have H0 := Lib.hid h0
  clear h0
  go_wp2
  go_ret
  exact ⟨rfl, H0.out, (hb1.mono (Nat.le_of_lt htl)).trans hb⟩

end Go.Proofs.YtplgcegpmebejaaDoor
