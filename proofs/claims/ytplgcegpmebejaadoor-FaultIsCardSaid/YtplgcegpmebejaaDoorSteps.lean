/- The walks of steps, Words, Depth, innermost, Under. -/
import Derived.Test.YtplgcegpmebejaaDoorErr
import Derived.Test.YtplgcegpmebejaaDoorAid
namespace Go.Proofs.YtplgcegpmebejaaDoor
open Go.RowKit

/-- A way: steps and what is at its end. -/
def wv (x : Value) : List (ByteArray × Int) → Value
  | [] => x
  | s :: l => .iface 47 (.agg #[.string s.1, .int .i64 s.2, wv x l])
/-- The cells of the steps of a way. -/
def stepCells (x : Value) : List (ByteArray × Int) → List Value
  | [] => []
  | s :: l => [.string s.1, .int .i64 s.2, wv x l] ++ stepCells x l
/-- What ends a way's steps: a fault, a number, or nothing. -/
def EndV (x : Value) : Prop := (∃ c a, x = .iface 35 (.agg #[.int .i64 c, .int .i64 a])) ∨ (∃ c, x = .iface 33 (.int .i64 c)) ∨ x = .nilIface

theorem infoStep : (Tryd.prog.info? 47).map (fun i => (i.zero, i.size, i.bytes)) = some (some (.agg #[.string ⟨#[]⟩, .int .i64 0, .nilIface]), 3, 40) := by kernel_rfl

theorem isStep (v : Value) (w : World) : (Instr.typeAssert (.iface 47 v) 38 47 true).run Tryd.prog w = .ok (.tuple #[v, .bool true]) w := by kernel_rfl
theorem noStepF (v : Value) (w : World) : (Instr.typeAssert (.iface 35 v) 38 47 true).run Tryd.prog w = .ok (.tuple #[.agg #[.string ⟨#[]⟩, .int .i64 0, .nilIface], .bool false]) w := by kernel_rfl
theorem noStepN (v : Value) (w : World) : (Instr.typeAssert (.iface 33 v) 38 47 true).run Tryd.prog w = .ok (.tuple #[.agg #[.string ⟨#[]⟩, .int .i64 0, .nilIface], .bool false]) w := by kernel_rfl
theorem noStepNil (w : World) : (Instr.typeAssert .nilIface 38 47 true).run Tryd.prog w = .ok (.tuple #[.agg #[.string ⟨#[]⟩, .int .i64 0, .nilIface], .bool false]) w := by kernel_rfl

theorem wv_form (x : Value) (hx : EndV x) (l : List (ByteArray × Int)) : (∃ u v, wv x l = .iface u v) ∨ wv x l = .nilIface := by
  cases l with
  | nil => rcases hx with ⟨c, a, rfl⟩ | ⟨c, rfl⟩ | rfl <;> simp [wv]
  | cons s l => exact .inl ⟨_, _, rfl⟩

set_option maxRecDepth 100000 in
set_option maxHeartbeats 4000000 in
theorem steps_any (x : Value) (hx : EndV x) (l : List (ByteArray × Int)) (hl : l.length ≤ 1000) (w : World) :
    Calls Tryd.prog 24 #[wv x l] w fun e w' => ∃ v, e = .returned v ∧ w'.ownsRow w.heap.size 47 3 v l.length (stepCells x l) ∧ Below w.heap.size w w' := by
  obtain ⟨i0, hi, hz0, hz1, hz2⟩ := info_parts infoStep
  have hmx : (1000 : Nat) ≤ maxLen := by decide
  have a1 := isStep
  have a2 := noStepF
  have a3 := noStepN
  have a4 := noStepNil
  go_enter Tryd.func24, Tryd.ntmps24
  go_wp2
  go_loopw [0, 3] (fun E v wr => ∃ (l' : List (ByteArray × Int)) (n : Nat) (cs : List Value), E = wv x l' ∧ n + l'.length = l.length ∧ Hid (cs ++ stepCells x l' = stepCells x l) ∧ wr.ownsRow w.heap.size 47 3 v n cs ∧ Below w.heap.size w wr) (fun E _ _ => SizeOf.sizeOf E)
  case atStart => exact ⟨l, 0, [], rfl, by omega, Lib.hid (by simp), World.ownsRow_nil _ _ _ _, Below.refl _ _⟩
  case round =>
    obtain ⟨l', n, cs, rfl, hn, hcs, hown, hb⟩ := hrel
    have hz := hb.size
    cases l' with
    | nil =>
      have hc := hcs.out
      simp only [stepCells, List.append_nil] at hc
      have hn' : n = l.length := by simpa using hn
      rw [hc, hn'] at hown
      have HO := Lib.hid hown
      clear hc hn' hown hn hcs
      rcases hx with ⟨c, a, rfl⟩ | ⟨c, rfl⟩ | rfl
      · simp only [wv]
        go_wp2
        go_ret
        exact ⟨_, rfl, HO.out, hb⟩
      · simp only [wv]
        go_wp2
        go_ret
        exact ⟨_, rfl, HO.out, hb⟩
      · simp only [wv]
        go_wp2
        go_ret
        exact ⟨_, rfl, HO.out, hb⟩
    | cons s l' =>
      simp only [wv]
      have hform := wv_form x hx l'
      obtain ⟨E2, hE2⟩ : ∃ E2, wv x l' = E2 := ⟨_, rfl⟩
      rw [hE2] at hform ⊢
      have HE := Lib.hid hE2
      clear hE2
      rcases hform with ⟨u, v, rfl⟩ | rfl
      · go_wp2_with (at_builtin; refine wpList_append_own _ rfl _ _ 55 rfl w.heap.size 47 i0 (.agg #[.string ⟨#[]⟩, .int .i64 0, .nilIface]) 3 40 Tryd.underlying55 hi hz0 hz1 hz2 rfl (by decide) _ _ _ rfl ((hown.alloc _).alloc _) ⟨wr.heap.size + 1, 0, none⟩ 1 1 [.string s.1, .int .i64 s.2, .iface u v] rfl rfl ?c1 ?c2 ?c3 ?c4 ?c5 ?_)
        case c1 =>
          intro j y hj
          have := cells_new (wr.alloc (.cells #[.string s.1, .int .i64 s.2, .iface u v] 47)) [.string s.1, .int .i64 s.2, .iface u v] 47 j y hj
          simpa using this
        case c2 => intro y hy; simp at hy; rcases hy with rfl | rfl | rfl <;> rfl
        case c3 => unfold maxLen at *; omega
        case c4 => omega
        case c5 => simp; omega
        intro v' w3 hown3 hgrow _
        have hb3 : Below w.heap.size w ((wr.alloc (.cells #[.string s.1, .int .i64 s.2, .iface u v] 47)).alloc (.cells #[.string s.1, .int .i64 s.2, .iface u v] 47)) := (hb.alloc hz _).alloc (by simp; omega) _
        have hb4 : Below w.heap.size w w3 := below_of_grown hb3 hgrow (by simp; omega) ((hown.alloc _).alloc _)
        have hk : ∀ k, w3.cell? ⟨wr.heap.size, k, none⟩ = ((wr.alloc (.cells #[.string s.1, .int .i64 s.2, .iface u v] 47)).alloc (.cells #[.string s.1, .int .i64 s.2, .iface u v] 47)).cell? ⟨wr.heap.size, k, none⟩ := fun k => by
          apply World.cell?_of_block
          refine hgrow.block _ (by simp; omega) ?_
          intro he
          rcases hown.2 with ⟨rfl, _⟩ | ⟨g, cap, cur, rfl, _, hgg, _⟩
          · cases he
          · have hlt := (Array.getElem?_eq_some_iff.1 hgg).1
            simp [Value.ownBlock] at he; omega
        have c2 : w3.cell? ⟨wr.heap.size, 2, none⟩ = some (.iface u v) := by
          rw [hk 2, World.cell?_alloc_lt _ _ _ (by simp), World.cell?_alloc_at _ _ _ _ rfl]; rfl
        clear hk hb3 hgrow hown
        go_wp2
        go_roundw
        case rel =>
          refine ⟨l', n + 1, cs ++ [.string s.1, .int .i64 s.2, .iface u v], HE.out.symm, by simp at hn; omega, Lib.hid ?_, hown3, hb4⟩
          have := hcs.out
          rw [← this, stepCells, HE.out]; simp
        case measure => simp; omega
      · go_wp2_with (at_builtin; refine wpList_append_own _ rfl _ _ 55 rfl w.heap.size 47 i0 (.agg #[.string ⟨#[]⟩, .int .i64 0, .nilIface]) 3 40 Tryd.underlying55 hi hz0 hz1 hz2 rfl (by decide) _ _ _ rfl ((hown.alloc _).alloc _) ⟨wr.heap.size + 1, 0, none⟩ 1 1 [.string s.1, .int .i64 s.2, .nilIface] rfl rfl ?c1 ?c2 ?c3 ?c4 ?c5 ?_)
        case c1 =>
          intro j y hj
          have := cells_new (wr.alloc (.cells #[.string s.1, .int .i64 s.2, .nilIface] 47)) [.string s.1, .int .i64 s.2, .nilIface] 47 j y hj
          simpa using this
        case c2 => intro y hy; simp at hy; rcases hy with rfl | rfl | rfl <;> rfl
        case c3 => unfold maxLen at *; omega
        case c4 => omega
        case c5 => simp; omega
        intro v' w3 hown3 hgrow _
        have hb3 : Below w.heap.size w ((wr.alloc (.cells #[.string s.1, .int .i64 s.2, .nilIface] 47)).alloc (.cells #[.string s.1, .int .i64 s.2, .nilIface] 47)) := (hb.alloc hz _).alloc (by simp; omega) _
        have hb4 : Below w.heap.size w w3 := below_of_grown hb3 hgrow (by simp; omega) ((hown.alloc _).alloc _)
        have hk : ∀ k, w3.cell? ⟨wr.heap.size, k, none⟩ = ((wr.alloc (.cells #[.string s.1, .int .i64 s.2, .nilIface] 47)).alloc (.cells #[.string s.1, .int .i64 s.2, .nilIface] 47)).cell? ⟨wr.heap.size, k, none⟩ := fun k => by
          apply World.cell?_of_block
          refine hgrow.block _ (by simp; omega) ?_
          intro he
          rcases hown.2 with ⟨rfl, _⟩ | ⟨g, cap, cur, rfl, _, hgg, _⟩
          · cases he
          · have hlt := (Array.getElem?_eq_some_iff.1 hgg).1
            simp [Value.ownBlock] at he; omega
        have c2 : w3.cell? ⟨wr.heap.size, 2, none⟩ = some .nilIface := by
          rw [hk 2, World.cell?_alloc_lt _ _ _ (by simp), World.cell?_alloc_at _ _ _ _ rfl]; rfl
        clear hk hb3 hgrow hown
        go_wp2
        go_roundw
        case rel =>
          refine ⟨l', n + 1, cs ++ [.string s.1, .int .i64 s.2, .nilIface], HE.out.symm, by simp at hn; omega, Lib.hid ?_, hown3, hb4⟩
          have := hcs.out
          rw [← this, stepCells, HE.out]; simp
        case measure => simp; omega
end Go.Proofs.YtplgcegpmebejaaDoor
