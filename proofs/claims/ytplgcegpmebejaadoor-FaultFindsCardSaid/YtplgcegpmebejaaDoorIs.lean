/- errors.Is and fault.Is at a number, over any way. -/
import Derived.Test.YtplgcegpmebejaaDoorErr
namespace Go.Proofs.YtplgcegpmebejaaDoor
open Go.RowKit Go.Extern.Stop Go.Stop Go.Extern

/-- The model's entry for a function without a body. -/
noncomputable def entry (f : Func) : Array Value → Sem Value := (Go.Extern.find f).getD fun _ => pure (.tuple #[])
noncomputable def eType : Array Value → Sem Value := entry Tryd.f30
noncomputable def eCmp : Array Value → Sem Value := entry Tryd.f59
theorem tyN (v : Value) (w : World) : (eType #[.iface 33 v]).run Tryd.prog w = .ok (.iface 73 (.agg #[.pointer (some ⟨1, 33, none⟩)])) w := by kernel_rfl
theorem cmpN (w : World) : (eCmp #[.agg #[.pointer (some ⟨1, 33, none⟩)]]).run Tryd.prog w = .ok (.bool true) w := by kernel_rfl
theorem methCmp (v : Value) (w : World) : (Go.method (Tryd.prog.types.size + 100) 73 v "Comparable").run Tryd.prog w = .ok (59, v) w := by kernel_rfl

set_option maxRecDepth 100000 in
set_option maxHeartbeats 2000000 in
theorem errorsIs_any (n : Int) (E : Value) (r : Bool) (hE : IsCh n E r) (w : World) :
    Calls Tryd.prog 25 #[E, .iface 33 (.int .i64 n)] w fun e w' => e = .returned (.bool r) ∧ Below w.heap.size w w' := by
  have hT := @run_callFunc_extern Tryd.prog 30 _ eType Tryd.func30 (by kernel_rfl) (by kernel_rfl) (by kernel_rfl) (by kernel_rfl)
  have hC := @run_callFunc_extern Tryd.prog 59 _ eCmp Tryd.func59 (by kernel_rfl) (by kernel_rfl) (by kernel_rfl) (by kernel_rfl)
  have tT := tyN
  have cT := cmpN
  have mR := methCmp
  simp only [sizeTypes, Nat.reduceAdd] at mR
  obtain ⟨u, v, rfl⟩ := hE.form
  have H := Lib.hid hE
  clear hE
  go_enter Tryd.func25, Tryd.ntmps25
  go_wp2_with fail
  refine (is_any n _ r H.out _).mono ?_
  rintro e w' ⟨rfl, hb⟩
  go_wp2
  go_ret
  exact ⟨rfl, hb⟩
set_option maxHeartbeats 1000000 in
theorem errorsIs_nil (n : Int) (w : World) :
    Calls Tryd.prog 25 #[.nilIface, .iface 33 (.int .i64 n)] w fun e w' => e = .returned (.bool false) ∧ Below w.heap.size w w' := by
  have hn := run_eql_iface_nil_left (P := Tryd.prog) w 33 (.int .i64 n) Tryd.underlying38
  go_enter Tryd.func25, Tryd.ntmps25
  go_wp2
  go_ret
  exact ⟨rfl, Below.refl _ _⟩
set_option maxHeartbeats 1000000 in
theorem faultIs_any (n : Int) (E : Value) (r : Bool) (hE : IsCh n E r) (w : World) :
    Calls Tryd.prog 15 #[E, .int .i64 n] w fun e w' => e = .returned (.bool r) ∧ Below w.heap.size w w' := by
  obtain ⟨u, v, rfl⟩ := hE.form
  have H := Lib.hid hE
  clear hE
  go_enter Tryd.func15, Tryd.ntmps15
  go_wp2_with fail
  refine (errorsIs_any n _ r H.out _).mono ?_
  rintro e w' ⟨rfl, hb⟩
  go_wp2
  go_ret
  exact ⟨rfl, hb⟩
set_option maxHeartbeats 1000000 in
theorem faultIs_nil (n : Int) (w : World) :
    Calls Tryd.prog 15 #[.nilIface, .int .i64 n] w fun e w' => e = .returned (.bool false) ∧ Below w.heap.size w w' := by
  go_enter Tryd.func15, Tryd.ntmps15
  go_wp2_with fail
  refine (errorsIs_nil n _).mono ?_
  rintro e w' ⟨rfl, hb⟩
  go_wp2
  go_ret
  exact ⟨rfl, hb⟩
end Go.Proofs.YtplgcegpmebejaaDoor
