/- The walk of the document's Cut (layer 6). -/
import Derived.Test.YtcmdpablbadloaaDoorRows
import Derived.Test.YtcmdpablbadloaaDoorAid
import Derived.Test.YtcmdpablbadloaaDoorChr
import Derived.Test.YtcmdpablbadloaaDoorOut
import Derived.WalkSpells
import Derived.Lib.Hide
namespace Go.Proofs.YtcmdpablbadloaaDoor
open Go.RowKit

/-- A text by its line feeds. -/
def cutF (s : ByteArray) : Nat → Nat → Nat → List ByteArray
  | 0, _, _ => []
  | f + 1, i, b => if i ≤ s.size then (if i = s.size ∨ bt s i = 10 then s.extract b i :: cutF s f (i + 1) (i + 1) else cutF s f (i + 1) b) else []
def cutB (s : ByteArray) : List ByteArray := cutF s (s.size + 1) 0 0
theorem cutF_end (s : ByteArray) (f i b : Nat) (h : s.size < i) : cutF s f i b = [] := by
  cases f with
  | zero => rfl
  | succ f => rw [cutF, if_neg (by omega)]
theorem cutF_cut {s : ByteArray} {f i b : Nat} (h : i ≤ s.size) (h2 : i = s.size ∨ bt s i = 10) : cutF s (f + 1) i b = s.extract b i :: cutF s f (i + 1) (i + 1) := by rw [cutF, if_pos h, if_pos h2]
theorem cutF_on {s : ByteArray} {f i b : Nat} (h : i < s.size) (h2 : bt s i ≠ 10) : cutF s (f + 1) i b = cutF s f (i + 1) b := by rw [cutF, if_pos (by omega), if_neg (by omega)]
def sv (l : List ByteArray) : List Value := l.map Value.string
theorem sv_len (l : List ByteArray) : (sv l).length = l.length := by simp [sv]
theorem sv_app (l m : List ByteArray) : sv (l ++ m) = sv l ++ sv m := by simp [sv]
theorem infoS : (Tryd.prog.info? 9).map (fun i => (i.zero, i.size, i.bytes)) = some (some (.string ⟨#[]⟩), 1, 16) := by kernel_rfl

set_option maxRecDepth 100000 in
set_option maxHeartbeats 4000000 in
theorem refCut_any (s : ByteArray) (w : World) (hs : s.size ≤ 100000) :
    Calls Tryd.prog 17 #[.string s] w fun e w' => ∃ v, e = .returned v ∧ w'.ownsRow w.heap.size 9 1 v (cutB s).length (sv (cutB s)) ∧ Below w.heap.size w w' := by
  obtain ⟨i0, hi, hz0, hz1, hz2⟩ := info_parts infoS
  have hmx : (1000000 : Nat) < maxLen := by decide
  go_enter Tryd.func17, Tryd.ntmps17
  go_wp2
  go_loopw [3, 4, 5] (fun v bb j wr => ∃ (i f b : Nat) (o : List ByteArray), j = .int .i64 i ∧ bb = .int .i64 b ∧ b ≤ i ∧ i ≤ s.size + 1 ∧ s.size + 1 ≤ i + f ∧ o.length ≤ i ∧ Hid (o ++ cutF s f i b = cutB s) ∧ wr.ownsRow w.heap.size 9 1 v o.length (sv o) ∧ Below w.heap.size w wr) (fun _ _ j _ => s.size + 1 - (intOf j).toNat)
  case atStart => exact ⟨0, s.size + 1, 0, [], rfl, rfl, by omega, by omega, by omega, by simp, Lib.hid rfl, World.ownsRow_nil _ _ _ _, Below.refl _ _⟩
  case round =>
    obtain ⟨i, f, b, o, rfl, rfl, hbi, hi', hf, hol, hp, hown, hb⟩ := hrel
    have hz := hb.size
    by_cases hlt : i ≤ s.size
    · obtain ⟨f, rfl⟩ : ∃ g, f = g + 1 := ⟨f - 1, by omega⟩
      by_cases hcut : i = s.size ∨ bt s i = 10
      · have HP := Lib.hid (show (o ++ [s.extract b i]) ++ cutF s f (i + 1) (i + 1) = cutB s by
          rw [← hp.out, cutF_cut hlt hcut]; simp)
        by_cases he : i = s.size
        · have q1 : ((i : Int) == (s.size : Int)) = true := by simp [he]
          clear hp hcut he
          go_wp2_with (at_builtin; refine wpList_append_own _ rfl _ _ 31 rfl w.heap.size 9 i0 (.string ⟨#[]⟩) 1 16 Tryd.underlying31 hi hz0 hz1 hz2 rfl (by decide) _ _ _ rfl (hown.alloc _) ⟨wr.heap.size, 0, none⟩ 1 1 (sv [s.extract b i]) rfl rfl (fun j u hj => cells_new wr _ _ j u hj) (fun y hy => by simp [sv] at hy; subst hy; rfl) (by omega) (by omega) (by simp; omega) ?_)
          intro v1 w1 own1 g1 _
          have hb1 := below_of_grown (hb.alloc hz _) g1 (by simp; omega) (hown.alloc _)
          rw [← sv_app] at own1
          have own1' : w1.ownsRow w.heap.size 9 1 v1 (o ++ [s.extract b i]).length (sv (o ++ [s.extract b i])) := by simpa using own1
          clear hown own1 g1 hb
          go_wp2
          go_roundw
          case rel => exact ⟨i + 1, f, i + 1, o ++ [s.extract b i], by go_num, by go_num, by omega, by omega, by omega, by simp; omega, HP, own1', hb1⟩
          case measure => simp [intOf]; omega
        · have q1 : ((i : Int) == (s.size : Int)) = false := by simp; omega
          have hl2 : i < s.size := by omega
          have q2 : ((s[i].toNat : Int) == 10) = true := by
            have e := bt_get s i hl2
            simp only [beq_iff_eq]; omega
          clear hp hcut he
          go_wp2_with (at_builtin; refine wpList_append_own _ rfl _ _ 31 rfl w.heap.size 9 i0 (.string ⟨#[]⟩) 1 16 Tryd.underlying31 hi hz0 hz1 hz2 rfl (by decide) _ _ _ rfl (hown.alloc _) ⟨wr.heap.size, 0, none⟩ 1 1 (sv [s.extract b i]) rfl rfl (fun j u hj => cells_new wr _ _ j u hj) (fun y hy => by simp [sv] at hy; subst hy; rfl) (by omega) (by omega) (by simp; omega) ?_)
          intro v1 w1 own1 g1 _
          have hb1 := below_of_grown (hb.alloc hz _) g1 (by simp; omega) (hown.alloc _)
          rw [← sv_app] at own1
          have own1' : w1.ownsRow w.heap.size 9 1 v1 (o ++ [s.extract b i]).length (sv (o ++ [s.extract b i])) := by simpa using own1
          clear hown own1 g1 hb
          go_wp2
          go_roundw
          case rel => exact ⟨i + 1, f, i + 1, o ++ [s.extract b i], by go_num, by go_num, by omega, by omega, by omega, by simp; omega, HP, own1', hb1⟩
          case measure => simp [intOf]; omega
      · have hl2 : i < s.size := by omega
        have hn10 : bt s i ≠ 10 := fun h => hcut (.inr h)
        have q1 : ((i : Int) == (s.size : Int)) = false := by simp; omega
        have q2 : ((s[i].toNat : Int) == 10) = false := by
          have e := bt_get s i hl2
          simp only [beq_eq_false_iff_ne, ne_eq]; omega
        have HP := Lib.hid (show o ++ cutF s f (i + 1) b = cutB s by rw [← hp.out, cutF_on hl2 hn10])
        clear hp hcut hn10
        go_wp2
        go_roundw
        case rel => exact ⟨i + 1, f, b, o, by go_num, by go_num, by omega, by omega, by omega, by omega, HP, hown, hb⟩
        case measure => simp [intOf]; omega
    · have hr := hp.out
      rw [cutF_end s f i b (by omega), List.append_nil] at hr
      have d1 : decide ((i : Int) ≤ (s.size : Int)) = false := decide_eq_false (by omega)
      rw [hr] at hown
      clear hp
      go_wp2
      go_ret
      exact ⟨_, rfl, hown, hb⟩
end Go.Proofs.YtcmdpablbadloaaDoor
