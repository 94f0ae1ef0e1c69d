/- errors.as over any way: at a fault, and at a number. -/
import Derived.Test.YtplgcegpmebejaaDoorAsFacts
import Derived.LaidEql
namespace Go.Proofs.YtplgcegpmebejaaDoor
open Go.RowKit Go.Extern.Stop Go.Stop Go.Extern

theorem two_values {α : Type} (f : Value → Value → α) (d : Array Value → α) (v x : Value) : ReflectliteValue.set.match_3 (motive := fun _ => α) #[v, x] f d = f v x := rfl
theorem set_one (v x : Value) : eVSet #[v, x] = ReflectliteValue.set #[v, x] := by rw [eVSet_is]
set_option maxHeartbeats 1000000 in
theorem setN (tb b : Addr) (c : Int) (old : Value) (W : World) (hb : W.cell? b = some (.int .i64 c)) (ht : W.cell? tb = some old) (hf : W.frozen? tb = false) :
    (eVSet #[.agg #[.pointer (some ⟨1, 33, none⟩), .pointer (some tb), .int .u64 386], .agg #[.pointer (some ⟨1, 33, none⟩), .pointer (some b), .int .u64 130]]).run Tryd.prog W
      = .ok (.tuple #[]) (W.setCell tb (.int .i64 c)) := by
  rw [set_one]
  delta ReflectliteValue.set
  rw [two_values]
  simp only [Sem.run_bind, partsAN, partsBN, Result.andThen]
  simp [ReflectliteValue.flagAddr, loadVar, isAgg, underlying, Tryd.underlying33, hb, Result.andThen, directN, storeVar, Value.cells, storeCells, Addr.add]
  rw [run_store Tryd.prog W tb _ _ (by rfl)]
  simp [ht, hf]
set_option maxHeartbeats 1000000 in
theorem setF (tb b : Nat) (x y x0 y0 : Int) (W : World) (hb : W.cell? ⟨b, 0, none⟩ = some (.int .i64 x)) (hb1 : W.cell? ⟨b, 1, none⟩ = some (.int .i64 y)) (ht : W.cell? ⟨tb, 0, none⟩ = some (.int .i64 x0)) (ht1 : W.cell? ⟨tb, 1, none⟩ = some (.int .i64 y0)) (hf : W.frozen? ⟨tb, 0, none⟩ = false) (hf1 : W.frozen? ⟨tb, 1, none⟩ = false) :
    (eVSet #[.agg #[.pointer (some ⟨1, 35, none⟩), .pointer (some ⟨tb, 0, none⟩), .int .u64 409], .agg #[.pointer (some ⟨1, 35, none⟩), .pointer (some ⟨b, 0, none⟩), .int .u64 153]]).run Tryd.prog W
      = .ok (.tuple #[]) ((W.setCell ⟨tb, 0, none⟩ (.int .i64 x)).setCell ⟨tb, 1, none⟩ (.int .i64 y)) := by
  rw [set_one]
  delta ReflectliteValue.set
  rw [two_values]
  simp only [Sem.run_bind, partsAF, partsBF, Result.andThen]
  have hl := run_loadCells_list (P := Tryd.prog) W ⟨b, 0, none⟩ [.int .i64 x, .int .i64 y] (fun j v hj => by
    match j, hj with
    | 0, hj => cases hj; simpa [Addr.add] using hb
    | 1, hj => cases hj; simpa [Addr.add] using hb1
    | j + 2, hj => simp at hj)
  have hs := run_storeCells_cells (P := Tryd.prog) tb 0 [.int .i64 x, .int .i64 y] 0 W (fun j hj => by
      match j, hj with
      | 0, _ => simp [ht]
      | 1, _ => simp [ht1]
      | j + 2, hj => simp at hj; omega) (fun j hj => by
      match j, hj with
      | 0, _ => simp [hf]
      | 1, _ => simp [hf1]
      | j + 2, hj => simp at hj; omega) (fun v hv => by
      simp at hv; rcases hv with rfl | rfl <;> rfl)
  simp at hl
  simp [ReflectliteValue.flagAddr, loadVar, isAgg, underlying, Tryd.underlying35, Result.andThen, directF, storeVar, Value.cells, hl, hs, World.setCells]
end Go.Proofs.YtplgcegpmebejaaDoor
