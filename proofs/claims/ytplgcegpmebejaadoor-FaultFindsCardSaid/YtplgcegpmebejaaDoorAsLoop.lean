/- errors.as over any way, at a fault and at a number. -/
import Derived.Test.YtplgcegpmebejaaDoorAs
namespace Go.Proofs.YtplgcegpmebejaaDoor
open Go.RowKit Go.Extern.Stop Go.Stop Go.Extern

/-- A way to an error, and the fault that it is, or has within. -/
inductive AsF : Value → Option (Int × Int) → Prop
  | fault (c a : Int) : AsF (.iface 35 (.agg #[.int .i64 c, .int .i64 a])) (some (c, a))
  | num (c : Int) : AsF (.iface 33 (.int .i64 c)) none
  | last (x : ByteArray) (a : Int) : AsF (.iface 47 (.agg #[.string x, .int .i64 a, .nilIface])) none
  | step (x : ByteArray) (a : Int) (E : Value) (r : Option (Int × Int)) : AsF E r → AsF (.iface 47 (.agg #[.string x, .int .i64 a, E])) r
theorem AsF.form {E : Value} {r : Option (Int × Int)} (h : AsF E r) : ∃ u v, E = .iface u v := by cases h <;> exact ⟨_, _, rfl⟩
/-- A way that has no fault within, and its number. -/
inductive AsN : Value → Option Int → Prop
  | num (c : Int) : AsN (.iface 33 (.int .i64 c)) (some c)
  | last (x : ByteArray) (a : Int) : AsN (.iface 47 (.agg #[.string x, .int .i64 a, .nilIface])) none
  | step (x : ByteArray) (a : Int) (E : Value) (r : Option Int) : AsN E r → AsN (.iface 47 (.agg #[.string x, .int .i64 a, E])) r
theorem AsN.form {E : Value} {r : Option Int} (h : AsN E r) : ∃ u v, E = .iface u v := by cases h <;> exact ⟨_, _, rfl⟩

set_option maxRecDepth 100000 in
set_option maxHeartbeats 4000000 in
theorem asF_none (E : Value) (hE : AsF E none) (tb : Nat) (vb : Addr) (w : World) :
    Calls Tryd.prog 29 #[E, .iface 53 (.pointer (some ⟨tb, 0, none⟩)), .agg #[.pointer (some ⟨1, 53, none⟩), .pointer (some vb), .int .u64 150], .iface 73 (.agg #[.pointer (some ⟨1, 35, none⟩)])] w fun e w' => e = .returned (.bool false) ∧ Below w.heap.size w w' := by
  have xeType := @run_callFunc_extern Tryd.prog 30 _ eType Tryd.func30 (by kernel_rfl) (by kernel_rfl) (by kernel_rfl) (by kernel_rfl)
  have xeVal := @run_callFunc_extern Tryd.prog 26 _ eVal Tryd.func26 (by kernel_rfl) (by kernel_rfl) (by kernel_rfl) (by kernel_rfl)
  have xeVElem := @run_callFunc_extern Tryd.prog 32 _ eVElem Tryd.func32 (by kernel_rfl) (by kernel_rfl) (by kernel_rfl) (by kernel_rfl)
  have xeVSet := @run_callFunc_extern Tryd.prog 33 _ eVSet Tryd.func33 (by kernel_rfl) (by kernel_rfl) (by kernel_rfl) (by kernel_rfl)
  have xeAssign := @run_callFunc_extern Tryd.prog 58 _ eAssign Tryd.func58 (by kernel_rfl) (by kernel_rfl) (by kernel_rfl) (by kernel_rfl)
  have qtyN := tyN
  have qtyS := tyS
  have qtyF := tyF
  have qasSF := asSF
  have qasFF := asFF
  have qasNF := asNF
  have qnoAsN := noAsN
  have qnoAsS := noAsS
  have qnoAsF := noAsF
  have qnoUnN := noUnN
  have qnoUnsN := noUnsN
  have qhasUnF := hasUnF
  have qhasUnS := hasUnS
  have m1 := methUnF
  have m2 := methUnS
  have m3 := mAssignableTo
  simp only [sizeTypes, Nat.reduceAdd] at m1 m2 m3
  go_enter Tryd.func29, Tryd.ntmps29
  go_wp2
  go_loopw [0] (fun E wr => AsF E none ∧ Below w.heap.size w wr) (fun E _ => SizeOf.sizeOf E)
  case atStart => exact ⟨hE, (Below.refl _ _).alloc (Nat.le_refl _) _⟩
  case round =>
    obtain ⟨hch, hb⟩ := hrel
    cases hch with
    | num c =>
      go_wp2
      go_ret
      exact ⟨rfl, hb⟩
    | last x a =>
      have hz := hb.size
      go_wp2
      go_ret
      exact ⟨rfl, hb.alloc hz _⟩
    | step x a E' _ hh =>
      obtain ⟨u, v, rfl⟩ := hh.form
      have H := Lib.hid hh
      clear hh
      have hz := hb.size
      go_wp2
      go_roundw
      case rel => exact ⟨H.out, hb.alloc hz _⟩
      case measure => simp; omega

set_option maxRecDepth 100000 in
set_option maxHeartbeats 4000000 in
theorem asN_none (E : Value) (hE : AsN E none) (tb : Nat) (vb : Addr) (w : World) :
    Calls Tryd.prog 29 #[E, .iface 54 (.pointer (some ⟨tb, 0, none⟩)), .agg #[.pointer (some ⟨1, 54, none⟩), .pointer (some vb), .int .u64 150], .iface 73 (.agg #[.pointer (some ⟨1, 33, none⟩)])] w fun e w' => e = .returned (.bool false) ∧ Below w.heap.size w w' := by
  have xeType := @run_callFunc_extern Tryd.prog 30 _ eType Tryd.func30 (by kernel_rfl) (by kernel_rfl) (by kernel_rfl) (by kernel_rfl)
  have xeVal := @run_callFunc_extern Tryd.prog 26 _ eVal Tryd.func26 (by kernel_rfl) (by kernel_rfl) (by kernel_rfl) (by kernel_rfl)
  have xeVElem := @run_callFunc_extern Tryd.prog 32 _ eVElem Tryd.func32 (by kernel_rfl) (by kernel_rfl) (by kernel_rfl) (by kernel_rfl)
  have xeVSet := @run_callFunc_extern Tryd.prog 33 _ eVSet Tryd.func33 (by kernel_rfl) (by kernel_rfl) (by kernel_rfl) (by kernel_rfl)
  have xeAssign := @run_callFunc_extern Tryd.prog 58 _ eAssign Tryd.func58 (by kernel_rfl) (by kernel_rfl) (by kernel_rfl) (by kernel_rfl)
  have qtyN := tyN
  have qtyS := tyS
  have qtyF := tyF
  have qasSN := asSN
  have qasFN := asFN
  have qasNN := asNN
  have qnoAsN := noAsN
  have qnoAsS := noAsS
  have qnoAsF := noAsF
  have qnoUnN := noUnN
  have qnoUnsN := noUnsN
  have qhasUnF := hasUnF
  have qhasUnS := hasUnS
  have m1 := methUnF
  have m2 := methUnS
  have m3 := mAssignableTo
  simp only [sizeTypes, Nat.reduceAdd] at m1 m2 m3
  go_enter Tryd.func29, Tryd.ntmps29
  go_wp2
  go_loopw [0] (fun E wr => AsN E none ∧ Below w.heap.size w wr) (fun E _ => SizeOf.sizeOf E)
  case atStart => exact ⟨hE, (Below.refl _ _).alloc (Nat.le_refl _) _⟩
  case round =>
    obtain ⟨hch, hb⟩ := hrel
    cases hch with
    | last x a =>
      have hz := hb.size
      go_wp2
      go_ret
      exact ⟨rfl, hb.alloc hz _⟩
    | step x a E' _ hh =>
      obtain ⟨u, v, rfl⟩ := hh.form
      have H := Lib.hid hh
      clear hh
      have hz := hb.size
      go_wp2
      go_roundw
      case rel => exact ⟨H.out, hb.alloc hz _⟩
      case measure => simp; omega

end Go.Proofs.YtplgcegpmebejaaDoor
