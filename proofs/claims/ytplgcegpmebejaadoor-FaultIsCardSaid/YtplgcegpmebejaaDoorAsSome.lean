/- errors.as over any way that has what is asked for. -/
import Derived.Test.YtplgcegpmebejaaDoorAsLoop
namespace Go.Proofs.YtplgcegpmebejaaDoor
open Go.RowKit Go.Extern.Stop Go.Stop Go.Extern

theorem oldCell {w wr : World} {o : Obj} (hb : Below (w.heap.size + 1) (w.alloc o) wr) {p : Addr} {v : Value} (hp : p.block < w.heap.size) (hc : w.cell? p = some v) : wr.cell? p = some v := by
  rw [hb.cell (p := p) (by omega), World.cell?_alloc_lt _ _ p hp]; exact hc
theorem oldFree {w wr : World} {o : Obj} (hb : Below (w.heap.size + 1) (w.alloc o) wr) {p : Addr} (hp : p.block < w.heap.size) (hc : w.frozen? p = false) : wr.frozen? p = false := by
  rw [hb.frozen (p := p) (by omega), World.frozen?_alloc_old _ _ p (by omega)]; exact hc
theorem oldBelow {w wr : World} {o : Obj} (hb : Below (w.heap.size + 1) (w.alloc o) wr) : Below w.heap.size w wr :=
  ((Below.refl _ _).alloc (Nat.le_refl _) _).trans (hb.mono (by omega))

/-- What errors.as leaves behind at a fault that is found. -/
def FoundF (tb : Nat) (c a : Int) (w : World) (e : Ending) (w' : World) : Prop :=
  e = .returned (.bool true) ∧ w'.cell? ⟨tb, 0, none⟩ = some (.int .i64 c) ∧ w'.cell? ⟨tb, 1, none⟩ = some (.int .i64 a) ∧ Below tb w w'
set_option maxRecDepth 100000 in
set_option maxHeartbeats 4000000 in
theorem asF_some (E : Value) (c a : Int) (hE : AsF E (some (c, a))) (tb : Nat) (vb : Addr) (x0 y0 : Int) (w : World) (htl : tb < w.heap.size) (hvl : vb.block < w.heap.size)
    (hv : w.cell? vb = some (.pointer (some ⟨tb, 0, none⟩))) (ht : w.cell? ⟨tb, 0, none⟩ = some (.int .i64 x0)) (ht1 : w.cell? ⟨tb, 1, none⟩ = some (.int .i64 y0)) (hf : w.frozen? ⟨tb, 0, none⟩ = false) (hf1 : w.frozen? ⟨tb, 1, none⟩ = false) :
    Calls Tryd.prog 29 #[E, .iface 53 (.pointer (some ⟨tb, 0, none⟩)), .agg #[.pointer (some ⟨1, 53, none⟩), .pointer (some vb), .int .u64 150], .iface 73 (.agg #[.pointer (some ⟨1, 35, none⟩)])] w (FoundF tb c a w) := by
  have xeType := @run_callFunc_extern Tryd.prog 30 _ eType Tryd.func30 (by kernel_rfl) (by kernel_rfl) (by kernel_rfl) (by kernel_rfl)
  have xeVal := @run_callFunc_extern Tryd.prog 26 _ eVal Tryd.func26 (by kernel_rfl) (by kernel_rfl) (by kernel_rfl) (by kernel_rfl)
  have xeVElem := @run_callFunc_extern Tryd.prog 32 _ eVElem Tryd.func32 (by kernel_rfl) (by kernel_rfl) (by kernel_rfl) (by kernel_rfl)
  have xeVSet := @run_callFunc_extern Tryd.prog 33 _ eVSet Tryd.func33 (by kernel_rfl) (by kernel_rfl) (by kernel_rfl) (by kernel_rfl)
  have xeAssign := @run_callFunc_extern Tryd.prog 58 _ eAssign Tryd.func58 (by kernel_rfl) (by kernel_rfl) (by kernel_rfl) (by kernel_rfl)
  have qtyN := tyN
  have qtyS := tyS
  have qtyF := tyF
  have qasSF := asSF
  have qasFF := asFF
  have qasNF := asNF
  have qnoAsN := noAsN
  have qnoAsS := noAsS
  have qnoAsF := noAsF
  have qnoUnN := noUnN
  have qnoUnsN := noUnsN
  have qhasUnF := hasUnF
  have qhasUnS := hasUnS
  have m1 := methUnF
  have m2 := methUnS
  have m3 := mAssignableTo
  simp only [sizeTypes, Nat.reduceAdd] at m1 m2 m3
  have HE := Lib.hid hE
  have HV := Lib.hid hv
  have HT := Lib.hid ht
  have HT1 := Lib.hid ht1
  have HF := Lib.hid hf
  have HF1 := Lib.hid hf1
  clear hE hv ht ht1 hf hf1
  go_enter Tryd.func29, Tryd.ntmps29
  go_wp2
  go_loopw [0] (fun E wr => AsF E (some (c, a)) ∧ Below (w.heap.size + 1) (w.alloc (.cells #[.pointer (some ⟨1, 53, none⟩), .pointer (some vb), .int .u64 150] 61)) wr) (fun E _ => SizeOf.sizeOf E)
  case atStart => exact ⟨HE.out, Below.refl _ _⟩
  case round =>
    obtain ⟨hch, hb⟩ := hrel
    have hbx : ∀ k, k < 3 → wr.cell? ⟨w.heap.size, k, none⟩ = (w.alloc (.cells #[.pointer (some ⟨1, 53, none⟩), .pointer (some vb), .int .u64 150] 61)).cell? ⟨w.heap.size, k, none⟩ := fun k _ => hb.cell (p := ⟨w.heap.size, k, none⟩) (by simp)
    have c0 : wr.cell? ⟨w.heap.size, 0, none⟩ = some (.pointer (some ⟨1, 53, none⟩)) := by rw [hbx 0 (by omega)]; simp
    have c1 : wr.cell? ⟨w.heap.size, 1, none⟩ = some (.pointer (some vb)) := by rw [hbx 1 (by omega)]; simp
    have c2 : wr.cell? ⟨w.heap.size, 2, none⟩ = some (.int .u64 150) := by rw [hbx 2 (by omega)]; simp
    clear hbx
    have hz := hb.size
    simp only [World.size_alloc] at hz
    cases hch with
    | fault _ _ =>
      have sE := elemVF vb ⟨tb, 0, none⟩ wr (oldCell hb hvl HV.out)
      have sS := setF tb wr.heap.size c a x0 y0 (wr.alloc (.cells #[.int .i64 c, .int .i64 a] 35)) (by simp) (by simp)
        (by rw [World.cell?_alloc_lt _ _ _ (by show tb < _; omega)]; exact oldCell hb (p := ⟨tb, 0, none⟩) htl HT.out) (by rw [World.cell?_alloc_lt _ _ _ (by show tb < _; omega)]; exact oldCell hb (p := ⟨tb, 1, none⟩) htl HT1.out)
        (by rw [World.frozen?_alloc_old _ _ _ (by show tb ≠ _; omega)]; exact oldFree hb (p := ⟨tb, 0, none⟩) htl HF.out) (by rw [World.frozen?_alloc_old _ _ _ (by show tb ≠ _; omega)]; exact oldFree hb (p := ⟨tb, 1, none⟩) htl HF1.out)
      have t0 := oldCell hb (p := ⟨tb, 0, none⟩) htl HT.out
      have t1 := oldCell hb (p := ⟨tb, 1, none⟩) htl HT1.out
      have HT0 := Lib.hid t0
      have HTT := Lib.hid t1
      clear t0 t1
      have vF := valOfF (.int .i64 c) (.int .i64 a) wr
      go_wp2
      go_ret
      have k0 : (wr.alloc (.cells #[.int .i64 c, .int .i64 a] 35)).cell? ⟨tb, 0, none⟩ = some (.int .i64 x0) := by rw [World.cell?_alloc_lt _ _ _ (by show tb < _; omega)]; exact HT0.out
      have k1 : (wr.alloc (.cells #[.int .i64 c, .int .i64 a] 35)).cell? ⟨tb, 1, none⟩ = some (.int .i64 y0) := by rw [World.cell?_alloc_lt _ _ _ (by show tb < _; omega)]; exact HTT.out
      refine ⟨rfl, ?_, ?_, ?_⟩
      · rw [World.cell?_setCell_other _ _ _ _ (by simp)]; exact World.cell?_setCell_same _ _ _ k0
      · exact World.cell?_setCell_same _ _ _ ((World.cell?_setCell_other _ ⟨tb, 0, none⟩ ⟨tb, 1, none⟩ _ (by simp)).trans k1)
      · exact ((((oldBelow hb).mono (Nat.le_of_lt htl)).alloc (by omega) _).setCell (Nat.le_refl _) _).setCell (Nat.le_refl _) _
    | step x z E' _ hh =>
      obtain ⟨u, v, rfl⟩ := hh.form
      have H := Lib.hid hh
      clear hh
      go_wp2
      go_roundw
      case rel => exact ⟨H.out, hb.alloc (by omega) _⟩
      case measure => simp; omega

/-- What errors.as leaves behind at a number that is found. -/
def FoundN (tb : Nat) (c : Int) (w : World) (e : Ending) (w' : World) : Prop :=
  e = .returned (.bool true) ∧ w'.cell? ⟨tb, 0, none⟩ = some (.int .i64 c) ∧ Below tb w w'
set_option maxRecDepth 100000 in
set_option maxHeartbeats 4000000 in
theorem asN_some (E : Value) (c : Int) (hE : AsN E (some c)) (tb : Nat) (vb : Addr) (x0 : Int) (w : World) (htl : tb < w.heap.size) (hvl : vb.block < w.heap.size)
    (hv : w.cell? vb = some (.pointer (some ⟨tb, 0, none⟩))) (ht : w.cell? ⟨tb, 0, none⟩ = some (.int .i64 x0)) (hf : w.frozen? ⟨tb, 0, none⟩ = false) :
    Calls Tryd.prog 29 #[E, .iface 54 (.pointer (some ⟨tb, 0, none⟩)), .agg #[.pointer (some ⟨1, 54, none⟩), .pointer (some vb), .int .u64 150], .iface 73 (.agg #[.pointer (some ⟨1, 33, none⟩)])] w (FoundN tb c w) := by
  have xeType := @run_callFunc_extern Tryd.prog 30 _ eType Tryd.func30 (by kernel_rfl) (by kernel_rfl) (by kernel_rfl) (by kernel_rfl)
  have xeVal := @run_callFunc_extern Tryd.prog 26 _ eVal Tryd.func26 (by kernel_rfl) (by kernel_rfl) (by kernel_rfl) (by kernel_rfl)
  have xeVElem := @run_callFunc_extern Tryd.prog 32 _ eVElem Tryd.func32 (by kernel_rfl) (by kernel_rfl) (by kernel_rfl) (by kernel_rfl)
  have xeVSet := @run_callFunc_extern Tryd.prog 33 _ eVSet Tryd.func33 (by kernel_rfl) (by kernel_rfl) (by kernel_rfl) (by kernel_rfl)
  have xeAssign := @run_callFunc_extern Tryd.prog 58 _ eAssign Tryd.func58 (by kernel_rfl) (by kernel_rfl) (by kernel_rfl) (by kernel_rfl)
  have qtyN := tyN
  have qtyS := tyS
  have qtyF := tyF
  have qasSN := asSN
  have qasFN := asFN
  have qasNN := asNN
  have qnoAsN := noAsN
  have qnoAsS := noAsS
  have qnoAsF := noAsF
  have qnoUnN := noUnN
  have qnoUnsN := noUnsN
  have qhasUnF := hasUnF
  have qhasUnS := hasUnS
  have m1 := methUnF
  have m2 := methUnS
  have m3 := mAssignableTo
  simp only [sizeTypes, Nat.reduceAdd] at m1 m2 m3
  have HE := Lib.hid hE
  have HV := Lib.hid hv
  have HT := Lib.hid ht
  have HF := Lib.hid hf
  clear hE hv ht hf
  go_enter Tryd.func29, Tryd.ntmps29
  go_wp2
  go_loopw [0] (fun E wr => AsN E (some c) ∧ Below (w.heap.size + 1) (w.alloc (.cells #[.pointer (some ⟨1, 54, none⟩), .pointer (some vb), .int .u64 150] 61)) wr) (fun E _ => SizeOf.sizeOf E)
  case atStart => exact ⟨HE.out, Below.refl _ _⟩
  case round =>
    obtain ⟨hch, hb⟩ := hrel
    have hbx : ∀ k, k < 3 → wr.cell? ⟨w.heap.size, k, none⟩ = (w.alloc (.cells #[.pointer (some ⟨1, 54, none⟩), .pointer (some vb), .int .u64 150] 61)).cell? ⟨w.heap.size, k, none⟩ := fun k _ => hb.cell (p := ⟨w.heap.size, k, none⟩) (by simp)
    have c0 : wr.cell? ⟨w.heap.size, 0, none⟩ = some (.pointer (some ⟨1, 54, none⟩)) := by rw [hbx 0 (by omega)]; simp
    have c1 : wr.cell? ⟨w.heap.size, 1, none⟩ = some (.pointer (some vb)) := by rw [hbx 1 (by omega)]; simp
    have c2 : wr.cell? ⟨w.heap.size, 2, none⟩ = some (.int .u64 150) := by rw [hbx 2 (by omega)]; simp
    clear hbx
    have hz := hb.size
    simp only [World.size_alloc] at hz
    cases hch with
    | num _ =>
      have sE := elemVN vb ⟨tb, 0, none⟩ wr (oldCell hb hvl HV.out)
      have sS := setN ⟨tb, 0, none⟩ ⟨wr.heap.size, 0, none⟩ c (.int .i64 x0) (wr.alloc (.cells #[.int .i64 c] 33)) (by simp)
        (by rw [World.cell?_alloc_lt _ _ _ (by show tb < _; omega)]; exact oldCell hb (p := ⟨tb, 0, none⟩) htl HT.out)
        (by rw [World.frozen?_alloc_old _ _ _ (by show tb ≠ _; omega)]; exact oldFree hb (p := ⟨tb, 0, none⟩) htl HF.out)
      have HT0 := Lib.hid (oldCell hb (p := ⟨tb, 0, none⟩) htl HT.out)
      have vF := valOfN c wr
      go_wp2
      go_ret
      have k0 : (wr.alloc (.cells #[.int .i64 c] 33)).cell? ⟨tb, 0, none⟩ = some (.int .i64 x0) := by rw [World.cell?_alloc_lt _ _ _ (by show tb < _; omega)]; exact HT0.out
      refine ⟨rfl, ?_, ?_⟩
      · exact World.cell?_setCell_same _ _ _ k0
      · exact (((oldBelow hb).mono (Nat.le_of_lt htl)).alloc (by omega) _).setCell (Nat.le_refl _) _
    | step x z E' _ hh =>
      obtain ⟨u, v, rfl⟩ := hh.form
      have H := Lib.hid hh
      clear hh
      go_wp2
      go_roundw
      case rel => exact ⟨H.out, hb.alloc (by omega) _⟩
      case measure => simp; omega
end Go.Proofs.YtplgcegpmebejaaDoor
