/- Closed facts on what errors.As asks of the types of a way's errors. -/
import Derived.Test.YtplgcegpmebejaaDoorIs
namespace Go.Proofs.YtplgcegpmebejaaDoor
open Go.RowKit Go.Extern.Stop Go.Stop Go.Extern

noncomputable def eVal : Array Value → Sem Value := entry Tryd.f26
noncomputable def eVType : Array Value → Sem Value := entry Tryd.f27
noncomputable def eVNil : Array Value → Sem Value := entry Tryd.f28
noncomputable def eVElem : Array Value → Sem Value := entry Tryd.f32
noncomputable def eVSet : Array Value → Sem Value := entry Tryd.f33
noncomputable def eKind : Array Value → Sem Value := entry Tryd.f48
noncomputable def eElem : Array Value → Sem Value := entry Tryd.f60
noncomputable def eImpl : Array Value → Sem Value := entry Tryd.f61
noncomputable def eAssign : Array Value → Sem Value := entry Tryd.f58
theorem valF (t : Addr) (w : World) : (eVal #[.iface 53 (.pointer (some t))]).run Tryd.prog w = .ok (.agg #[.pointer (some ⟨1, 53, none⟩), .pointer (some ⟨w.heap.size, 0, none⟩), .int .u64 150]) (w.alloc (.cells #[.pointer (some t)] 53)) := by kernel_rfl
theorem vtyF (a : Addr) (w : World) : (eVType #[.agg #[.pointer (some ⟨1, 53, none⟩), .pointer (some a), .int .u64 150]]).run Tryd.prog w = .ok (.iface 73 (.agg #[.pointer (some ⟨1, 53, none⟩)])) w := by kernel_rfl
theorem kdPF (w : World) : (eKind #[.pointer (some ⟨1, 53, none⟩)]).run Tryd.prog w = .ok (.int .u8 22) w := by kernel_rfl
theorem kdTF (w : World) : (eKind #[.pointer (some ⟨1, 35, none⟩)]).run Tryd.prog w = .ok (.int .u8 25) w := by kernel_rfl
theorem elF (w : World) : (eElem #[.agg #[.pointer (some ⟨1, 53, none⟩)]]).run Tryd.prog w = .ok (.iface 73 (.agg #[.pointer (some ⟨1, 35, none⟩)])) w := by kernel_rfl
theorem imF (w : World) : (eImpl #[.agg #[.pointer (some ⟨1, 35, none⟩)], .iface 73 (.agg #[.pointer (some ⟨1, 38, none⟩)])]).run Tryd.prog w = .ok (.bool true) w := by kernel_rfl
theorem valN (t : Addr) (w : World) : (eVal #[.iface 54 (.pointer (some t))]).run Tryd.prog w = .ok (.agg #[.pointer (some ⟨1, 54, none⟩), .pointer (some ⟨w.heap.size, 0, none⟩), .int .u64 150]) (w.alloc (.cells #[.pointer (some t)] 54)) := by kernel_rfl
theorem vtyN (a : Addr) (w : World) : (eVType #[.agg #[.pointer (some ⟨1, 54, none⟩), .pointer (some a), .int .u64 150]]).run Tryd.prog w = .ok (.iface 73 (.agg #[.pointer (some ⟨1, 54, none⟩)])) w := by kernel_rfl
theorem kdPN (w : World) : (eKind #[.pointer (some ⟨1, 54, none⟩)]).run Tryd.prog w = .ok (.int .u8 22) w := by kernel_rfl
theorem kdTN (w : World) : (eKind #[.pointer (some ⟨1, 33, none⟩)]).run Tryd.prog w = .ok (.int .u8 2) w := by kernel_rfl
theorem elN (w : World) : (eElem #[.agg #[.pointer (some ⟨1, 54, none⟩)]]).run Tryd.prog w = .ok (.iface 73 (.agg #[.pointer (some ⟨1, 33, none⟩)])) w := by kernel_rfl
theorem imN (w : World) : (eImpl #[.agg #[.pointer (some ⟨1, 33, none⟩)], .iface 73 (.agg #[.pointer (some ⟨1, 38, none⟩)])]).run Tryd.prog w = .ok (.bool true) w := by kernel_rfl
theorem tyS (v : Value) (w : World) : (eType #[.iface 47 v]).run Tryd.prog w = .ok (.iface 73 (.agg #[.pointer (some ⟨1, 47, none⟩)])) w := by kernel_rfl
theorem tyF (v : Value) (w : World) : (eType #[.iface 35 v]).run Tryd.prog w = .ok (.iface 73 (.agg #[.pointer (some ⟨1, 35, none⟩)])) w := by kernel_rfl
theorem asSF (w : World) : (eAssign #[.agg #[.pointer (some ⟨1, 47, none⟩)], .iface 73 (.agg #[.pointer (some ⟨1, 35, none⟩)])]).run Tryd.prog w = .ok (.bool false) w := by kernel_rfl
theorem asSN (w : World) : (eAssign #[.agg #[.pointer (some ⟨1, 47, none⟩)], .iface 73 (.agg #[.pointer (some ⟨1, 33, none⟩)])]).run Tryd.prog w = .ok (.bool false) w := by kernel_rfl
theorem asFF (w : World) : (eAssign #[.agg #[.pointer (some ⟨1, 35, none⟩)], .iface 73 (.agg #[.pointer (some ⟨1, 35, none⟩)])]).run Tryd.prog w = .ok (.bool true) w := by kernel_rfl
theorem asFN (w : World) : (eAssign #[.agg #[.pointer (some ⟨1, 35, none⟩)], .iface 73 (.agg #[.pointer (some ⟨1, 33, none⟩)])]).run Tryd.prog w = .ok (.bool false) w := by kernel_rfl
theorem asNF (w : World) : (eAssign #[.agg #[.pointer (some ⟨1, 33, none⟩)], .iface 73 (.agg #[.pointer (some ⟨1, 35, none⟩)])]).run Tryd.prog w = .ok (.bool false) w := by kernel_rfl
theorem asNN (w : World) : (eAssign #[.agg #[.pointer (some ⟨1, 33, none⟩)], .iface 73 (.agg #[.pointer (some ⟨1, 33, none⟩)])]).run Tryd.prog w = .ok (.bool true) w := by kernel_rfl
theorem valOfF (x y : Value) (w : World) : (eVal #[.iface 35 (.agg #[x, y])]).run Tryd.prog w = .ok (.agg #[.pointer (some ⟨1, 35, none⟩), .pointer (some ⟨w.heap.size, 0, none⟩), .int .u64 153]) (w.alloc (.cells #[x, y] 35)) := by kernel_rfl
theorem valOfN (c : Int) (w : World) : (eVal #[.iface 33 (.int .i64 c)]).run Tryd.prog w = .ok (.agg #[.pointer (some ⟨1, 33, none⟩), .pointer (some ⟨w.heap.size, 0, none⟩), .int .u64 130]) (w.alloc (.cells #[.int .i64 c] 33)) := by kernel_rfl
theorem mKind (h : Value) (w : World) : (Go.method (Tryd.prog.types.size + 100) 73 (.agg #[h]) "Kind").run Tryd.prog w = .ok (48, h) w := by kernel_rfl
theorem mElem (h : Value) (w : World) : (Go.method (Tryd.prog.types.size + 100) 73 (.agg #[h]) "Elem").run Tryd.prog w = .ok (60, .agg #[h]) w := by kernel_rfl
theorem mImplements (h : Value) (w : World) : (Go.method (Tryd.prog.types.size + 100) 73 (.agg #[h]) "Implements").run Tryd.prog w = .ok (61, .agg #[h]) w := by kernel_rfl
theorem mAssignableTo (h : Value) (w : World) : (Go.method (Tryd.prog.types.size + 100) 73 (.agg #[h]) "AssignableTo").run Tryd.prog w = .ok (58, .agg #[h]) w := by kernel_rfl

theorem method_one (z : Sem Value) (g : TypeId → Addr → Nat → Nat → Sem Value) (v : Value) : ReflectliteValue.method z g #[v] = (do match ← ReflectliteValue.parts v with | none => z | some (t, a, fl) => g t a fl (fl % 32)) := rfl
theorem eVNil_is : eVNil = ReflectliteValue.method (ReflectliteValue.valueError "reflectlite.Value.IsNil" 0) ReflectliteValue.isNil := by kernel_rfl
theorem eVElem_is : eVElem = ReflectliteValue.method (ReflectliteValue.valueError "reflectlite.Value.Elem" 0) ReflectliteValue.elem := by kernel_rfl
theorem eVSet_is : eVSet = ReflectliteValue.set := by kernel_rfl
theorem partsF (a : Addr) (w : World) : (ReflectliteValue.parts (.agg #[.pointer (some ⟨1, 53, none⟩), .pointer (some a), .int .u64 150])).run Tryd.prog w = .ok (some (53, a, 150)) w := by kernel_rfl
theorem nilF (a p : Addr) (W : World) (ha : W.cell? a = some (.pointer (some p))) : (eVNil #[.agg #[.pointer (some ⟨1, 53, none⟩), .pointer (some a), .int .u64 150]]).run Tryd.prog W = .ok (.bool false) W := by
  rw [eVNil_is, method_one]
  simp only [Sem.run_bind, partsF, Result.andThen]
  simp [ReflectliteValue.isNil, loadVar, isAgg, underlying, Tryd.underlying53, ha, Result.andThen]
theorem elemOfF (w : World) : (Rtype.elem? 53).run Tryd.prog w = .ok (some 35) w := by kernel_rfl
theorem mkF (p : Addr) (w : World) : (ReflectliteValue.mk 35 p ReflectliteValue.flagAddr).run Tryd.prog w = .ok (.agg #[.pointer (some ⟨1, 35, none⟩), .pointer (some p), .int .u64 409]) w := by kernel_rfl
theorem elemVF (a p : Addr) (W : World) (ha : W.cell? a = some (.pointer (some p))) : (eVElem #[.agg #[.pointer (some ⟨1, 53, none⟩), .pointer (some a), .int .u64 150]]).run Tryd.prog W = .ok (.agg #[.pointer (some ⟨1, 35, none⟩), .pointer (some p), .int .u64 409]) W := by
  rw [eVElem_is, method_one]
  simp only [Sem.run_bind, partsF, Result.andThen]
  simp [ReflectliteValue.elem, loadVar, isAgg, underlying, Tryd.underlying53, ha, Result.andThen, elemOfF, mkF]
theorem partsAF (a : Addr) (w : World) : (ReflectliteValue.parts (.agg #[.pointer (some ⟨1, 35, none⟩), .pointer (some a), .int .u64 409])).run Tryd.prog w = .ok (some (35, a, 409)) w := by kernel_rfl
theorem partsBF (a : Addr) (w : World) : (ReflectliteValue.parts (.agg #[.pointer (some ⟨1, 35, none⟩), .pointer (some a), .int .u64 153])).run Tryd.prog w = .ok (some (35, a, 153)) w := by kernel_rfl
theorem directF (w : World) : (Rtype.directlyAssignable 35 35).run Tryd.prog w = .ok true w := by kernel_rfl
theorem sizeF (w : World) : (sizeOf 35).run Tryd.prog w = .ok 2 w := by kernel_rfl
theorem partsN (a : Addr) (w : World) : (ReflectliteValue.parts (.agg #[.pointer (some ⟨1, 54, none⟩), .pointer (some a), .int .u64 150])).run Tryd.prog w = .ok (some (54, a, 150)) w := by kernel_rfl
theorem nilN (a p : Addr) (W : World) (ha : W.cell? a = some (.pointer (some p))) : (eVNil #[.agg #[.pointer (some ⟨1, 54, none⟩), .pointer (some a), .int .u64 150]]).run Tryd.prog W = .ok (.bool false) W := by
  rw [eVNil_is, method_one]
  simp only [Sem.run_bind, partsN, Result.andThen]
  simp [ReflectliteValue.isNil, loadVar, isAgg, underlying, Tryd.underlying54, ha, Result.andThen]
theorem elemOfN (w : World) : (Rtype.elem? 54).run Tryd.prog w = .ok (some 33) w := by kernel_rfl
theorem mkN (p : Addr) (w : World) : (ReflectliteValue.mk 33 p ReflectliteValue.flagAddr).run Tryd.prog w = .ok (.agg #[.pointer (some ⟨1, 33, none⟩), .pointer (some p), .int .u64 386]) w := by kernel_rfl
theorem elemVN (a p : Addr) (W : World) (ha : W.cell? a = some (.pointer (some p))) : (eVElem #[.agg #[.pointer (some ⟨1, 54, none⟩), .pointer (some a), .int .u64 150]]).run Tryd.prog W = .ok (.agg #[.pointer (some ⟨1, 33, none⟩), .pointer (some p), .int .u64 386]) W := by
  rw [eVElem_is, method_one]
  simp only [Sem.run_bind, partsN, Result.andThen]
  simp [ReflectliteValue.elem, loadVar, isAgg, underlying, Tryd.underlying54, ha, Result.andThen, elemOfN, mkN]
theorem partsAN (a : Addr) (w : World) : (ReflectliteValue.parts (.agg #[.pointer (some ⟨1, 33, none⟩), .pointer (some a), .int .u64 386])).run Tryd.prog w = .ok (some (33, a, 386)) w := by kernel_rfl
theorem partsBN (a : Addr) (w : World) : (ReflectliteValue.parts (.agg #[.pointer (some ⟨1, 33, none⟩), .pointer (some a), .int .u64 130])).run Tryd.prog w = .ok (some (33, a, 130)) w := by kernel_rfl
theorem directN (w : World) : (Rtype.directlyAssignable 33 33).run Tryd.prog w = .ok true w := by kernel_rfl
theorem sizeN (w : World) : (sizeOf 33).run Tryd.prog w = .ok 1 w := by kernel_rfl
end Go.Proofs.YtplgcegpmebejaaDoor
