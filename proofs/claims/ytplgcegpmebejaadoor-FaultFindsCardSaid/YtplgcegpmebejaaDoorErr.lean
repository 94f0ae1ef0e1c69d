/- Closed facts on assertions and methods of a way's errors; errors.is and errors.Is at a number, over any way. -/
import Derived.Test.YtplgcegpmebejaaDoorRows
import Derived.WalkKit
import Derived.WalkSpells
import Derived.WalkLawsBesides
import Derived.LaidEql
import Derived.Stop.Asserts
import Derived.RowKitTokens
import Derived.Lib.Hide
namespace Go.Proofs.YtplgcegpmebejaaDoor
open Go.RowKit Go.Extern.Stop Go.Stop Go.Extern

theorem noIsS (v : Value) (xT : TypeId) (w : World) : (Instr.typeAssert (.iface 47 v) xT 84 true).run Tryd.prog w = .ok (.tuple #[.nilIface, .bool false]) w := run_typeAssert_lacksB Tryd.underlying84 (by kernel_rfl) (by kernel_rfl) v xT w
theorem noIsF (v : Value) (xT : TypeId) (w : World) : (Instr.typeAssert (.iface 35 v) xT 84 true).run Tryd.prog w = .ok (.tuple #[.nilIface, .bool false]) w := run_typeAssert_lacksB Tryd.underlying84 (by kernel_rfl) (by kernel_rfl) v xT w
theorem noIsN (v : Value) (xT : TypeId) (w : World) : (Instr.typeAssert (.iface 33 v) xT 84 true).run Tryd.prog w = .ok (.tuple #[.nilIface, .bool false]) w := run_typeAssert_lacksB Tryd.underlying84 (by kernel_rfl) (by kernel_rfl) v xT w
theorem noAsS (v : Value) (xT : TypeId) (w : World) : (Instr.typeAssert (.iface 47 v) xT 77 true).run Tryd.prog w = .ok (.tuple #[.nilIface, .bool false]) w := run_typeAssert_lacksB Tryd.underlying77 (by kernel_rfl) (by kernel_rfl) v xT w
theorem noAsF (v : Value) (xT : TypeId) (w : World) : (Instr.typeAssert (.iface 35 v) xT 77 true).run Tryd.prog w = .ok (.tuple #[.nilIface, .bool false]) w := run_typeAssert_lacksB Tryd.underlying77 (by kernel_rfl) (by kernel_rfl) v xT w
theorem noAsN (v : Value) (xT : TypeId) (w : World) : (Instr.typeAssert (.iface 33 v) xT 77 true).run Tryd.prog w = .ok (.tuple #[.nilIface, .bool false]) w := run_typeAssert_lacksB Tryd.underlying77 (by kernel_rfl) (by kernel_rfl) v xT w
theorem hasUnS (v : Value) (xT : TypeId) (w : World) : (Instr.typeAssert (.iface 47 v) xT 80 true).run Tryd.prog w = .ok (.tuple #[.iface 47 v, .bool true]) w := run_typeAssert_hasB Tryd.underlying80 (by kernel_rfl) v xT w
theorem hasUnF (v : Value) (xT : TypeId) (w : World) : (Instr.typeAssert (.iface 35 v) xT 80 true).run Tryd.prog w = .ok (.tuple #[.iface 35 v, .bool true]) w := run_typeAssert_hasB Tryd.underlying80 (by kernel_rfl) v xT w
theorem noUnN (v : Value) (xT : TypeId) (w : World) : (Instr.typeAssert (.iface 33 v) xT 80 true).run Tryd.prog w = .ok (.tuple #[.nilIface, .bool false]) w := run_typeAssert_lacksB Tryd.underlying80 (by kernel_rfl) (by kernel_rfl) v xT w
theorem noUnsN (v : Value) (xT : TypeId) (w : World) : (Instr.typeAssert (.iface 33 v) xT 81 true).run Tryd.prog w = .ok (.tuple #[.nilIface, .bool false]) w := run_typeAssert_lacksB Tryd.underlying81 (by kernel_rfl) (by kernel_rfl) v xT w
theorem methUnS (v : Value) (w : World) : (Go.method (Tryd.prog.types.size + 100) 47 v "Unwrap").run Tryd.prog w = .ok (19, v) w := by kernel_rfl
theorem methUnF (v : Value) (w : World) : (Go.method (Tryd.prog.types.size + 100) 35 v "Unwrap").run Tryd.prog w = .ok (53, v) w := by kernel_rfl
theorem sizeTypes : Tryd.prog.types.size = 116 := by kernel_rfl

theorem eqlNN (a b : Int) (w : World) : (binOp .eql 38 (.iface 33 (.int .i64 a)) (.iface 33 (.int .i64 b))).run Tryd.prog w = .ok (.bool (a == b)) w := by kernel_rfl
theorem eqlFN (v : Value) (b : Int) (w : World) : (binOp .eql 38 (.iface 35 v) (.iface 33 (.int .i64 b))).run Tryd.prog w = .ok (.bool false) w := run_eql_iface_types _ _ _ _ Tryd.underlying38 (by decide) w
theorem eqlSN (v : Value) (b : Int) (w : World) : (binOp .eql 38 (.iface 47 v) (.iface 33 (.int .i64 b))).run Tryd.prog w = .ok (.bool false) w := run_eql_iface_types _ _ _ _ Tryd.underlying38 (by decide) w

theorem ret_bool {a b : Bool} (h : a = b) : Ending.returned (.bool a) = .returned (.bool b) := by rw [h]
/-- A way to an error, and whether it has the number n within. -/
inductive IsCh (n : Int) : Value → Bool → Prop
  | num (c : Int) : IsCh n (.iface 33 (.int .i64 c)) (c == n)
  | fault (c a : Int) : IsCh n (.iface 35 (.agg #[.int .i64 c, .int .i64 a])) (c == n)
  | last (x : ByteArray) (a : Int) : IsCh n (.iface 47 (.agg #[.string x, .int .i64 a, .nilIface])) false
  | step (x : ByteArray) (a : Int) (E : Value) (r : Bool) : IsCh n E r → IsCh n (.iface 47 (.agg #[.string x, .int .i64 a, E])) r
theorem IsCh.form {n : Int} {E : Value} {r : Bool} (h : IsCh n E r) : ∃ u v, E = .iface u v := by cases h <;> exact ⟨_, _, rfl⟩

set_option maxRecDepth 100000 in
set_option maxHeartbeats 2000000 in
theorem is_any (n : Int) (E : Value) (r : Bool) (hE : IsCh n E r) (w : World) :
    Calls Tryd.prog 31 #[E, .iface 33 (.int .i64 n), .bool true] w fun e w' => e = .returned (.bool r) ∧ Below w.heap.size w w' := by
  have nI := noIsN
  have nI2 := noIsF
  have nI3 := noIsS
  have nU := noUnN
  have nV := noUnsN
  have hU2 := hasUnF
  have hU3 := hasUnS
  have m2 := methUnF
  have m3 := methUnS
  simp only [sizeTypes, Nat.reduceAdd] at m2 m3
  go_enter Tryd.func31, Tryd.ntmps31
  go_wp2
  go_loopw [0] (fun E wr => IsCh n E r ∧ Below w.heap.size w wr) (fun E _ => SizeOf.sizeOf E)
  case atStart => exact ⟨hE, Below.refl _ _⟩
  case round =>
    obtain ⟨hch, hb⟩ := hrel
    cases hch with
    | num c =>
      have eN := eqlNN c n
      cases hcn : (c == n) with
      | true => go_wp2; go_ret; exact ⟨ret_bool hcn.symm, hb⟩
      | false => go_wp2; go_ret; exact ⟨ret_bool hcn.symm, hb⟩
    | fault c a =>
      have eN := eqlFN (.agg #[.int .i64 c, .int .i64 a]) n
      have hz := hb.size
      go_wp2
      go_roundw
      case rel => exact ⟨IsCh.num c, hb.alloc hz _⟩
      case measure => simp; omega
    | last x a =>
      have eN := eqlSN (.agg #[.string x, .int .i64 a, .nilIface]) n
      have hz := hb.size
      go_wp2
      go_ret
      exact ⟨rfl, hb.alloc hz _⟩
    | step x a E' _ h =>
      obtain ⟨u, v, rfl⟩ := h.form
      have H := Lib.hid h
      clear h
      have eN := eqlSN (.agg #[.string x, .int .i64 a, .iface u v]) n
      have hz := hb.size
      go_wp2
      go_roundw
      case rel => exact ⟨H.out, hb.alloc hz _⟩
      case measure => simp; omega
end Go.Proofs.YtplgcegpmebejaaDoor
