/- The walk of the document's WriteSingle. -/
import Derived.Test.YtoobbmehjpninaaDoorWSingleP
import Derived.Test.YtoobbmehjpninaaDoorOut
import Derived.Test.YtoobbmehjpninaaDoorChr
import Derived.WalkSpells
import Derived.Lib.Hide
namespace Go.Proofs.YtoobbmehjpninaaDoor
open Go.RowKit

set_option maxRecDepth 100000 in
set_option maxHeartbeats 4000000 in
theorem refWSingle_any (s : ByteArray) (w : World) (hs : s.size ≤ 10000) :
    Calls Tryd.prog 7 #[.string s] w fun e w' => e = .returned (.string ⟨(wsL s.data.toList).toArray⟩) ∧ Below w.heap.size w w' := by
  obtain ⟨i0, hi, hz0, hz1, hz2⟩ := info_parts infoB
  have hmx : (30000 : Nat) ≤ maxLen := by decide
  go_enter Tryd.func7, Tryd.ntmps7
  go_wp2
  go_loopw [3, 4] (fun v j wr => ∃ (k : Nat) (o : List UInt8), j = .int .i64 k ∧ k ≤ s.size ∧ o.length ≤ 2 * k + 1 ∧ Hid (o = 39 :: dbl (s.data.toList.take k)) ∧ wr.ownsRow w.heap.size 5 1 v o.length (bv o) ∧ Below w.heap.size w wr) (fun _ j _ => s.size - (intOf j).toNat)
  case atStart => exact ⟨0, [39], rfl, by omega, by simp, Lib.hid (by simp [dbl]), own_lit w [39] (by decide) _ (Nat.le_refl _), (Below.refl _ _).alloc (Nat.le_refl _) _⟩
  case round =>
    obtain ⟨k, o, rfl, hk, hol, ho, hown, hb⟩ := hrel
    have hz := hb.size
    by_cases hlt : k < s.size
    · by_cases h39 : s[k].toNat = 39
      · have q : ((s[k].toNat : Int) == 39) = true := by simp [h39]
        have HO := Lib.hid (show o ++ [39] ++ [s[k]] = 39 :: dbl (s.data.toList.take (k + 1)) by
          rw [ho.out, take_snoc8 s k hlt, dbl_snoc, if_pos h39]
          have : s[k] = 39 := UInt8.toNat_inj.1 h39
          rw [this]; simp)
        have HB := Lib.hid (show bv [s[k]] = [.int .u8 (s[k].toNat : Int)] from rfl)
        clear h39 ho
        go_wp2_with (at_builtin; refine wpList_append_own _ rfl _ _ 32 rfl w.heap.size 5 i0 (.int .u8 0) 1 1 Tryd.underlying32 hi hz0 hz1 hz2 rfl (by decide) _ _ _ rfl (hown.alloc _) ⟨wr.heap.size, 0, none⟩ 1 1 (bv [39]) rfl rfl (fun j u hj => cells_new wr _ _ j u hj) (fun y hy => by simp [bv] at hy; subst hy; rfl) (by omega) (by omega) (by simp; omega) ?_)
        intro v1 w1 own1 g1 _
        have hb1 := below_of_grown (hb.alloc hz _) g1 (by simp; omega) (hown.alloc _)
        have hz1' := hb1.size
        rw [← bv_app] at own1
        have own1' : w1.ownsRow w.heap.size 5 1 v1 (o ++ [39]).length (bv (o ++ [39])) := by simpa using own1
        obtain ⟨o1, ho1⟩ : ∃ o1, o ++ [39] = o1 := ⟨_, rfl⟩
        have hl1 : o1.length = o.length + 1 := by rw [← ho1]; simp
        rw [ho1] at own1' HO
        clear hown g1 own1 ho1 hb
        go_wp2_with (at_builtin; refine wpList_append_own _ rfl _ _ 32 rfl w.heap.size 5 i0 (.int .u8 0) 1 1 Tryd.underlying32 hi hz0 hz1 hz2 rfl (by decide) _ _ _ rfl (own1'.alloc _) ⟨w1.heap.size, 0, none⟩ 1 1 (bv [s[k]]) rfl rfl (fun j u hj => cells_new w1 _ _ j u hj) (fun y hy => by simp [bv] at hy; subst hy; rfl) (by omega) (by omega) (by simp; omega) ?_)
        intro v2 w2 own2 g2 _
        have hb2 := below_of_grown (hb1.alloc hz1' _) g2 (by simp; omega) (own1'.alloc _)
        rw [← bv_app] at own2
        have own2' : w2.ownsRow w.heap.size 5 1 v2 (o1 ++ [s[k]]).length (bv (o1 ++ [s[k]])) := by simpa [hl1] using own2
        clear own2 g2 own1' hb1
        go_wp2
        go_roundw
        case rel => exact ⟨k + 1, o1 ++ [s[k]], by go_num, by omega, by simp; omega, HO, own2', hb2⟩
        case measure => simp [intOf]; omega
      · have q : ((s[k].toNat : Int) == 39) = false := by simp; omega
        have HO := Lib.hid (show o ++ [s[k]] = 39 :: dbl (s.data.toList.take (k + 1)) by
          rw [ho.out, take_snoc8 s k hlt, dbl_snoc, if_neg h39]; simp)
        clear h39 ho
        go_wp2_with (at_builtin; refine wpList_append_own _ rfl _ _ 32 rfl w.heap.size 5 i0 (.int .u8 0) 1 1 Tryd.underlying32 hi hz0 hz1 hz2 rfl (by decide) _ _ _ rfl (hown.alloc _) ⟨wr.heap.size, 0, none⟩ 1 1 (bv [s[k]]) rfl rfl (fun j u hj => cells_new wr _ _ j u hj) (fun y hy => by simp [bv] at hy; subst hy; rfl) (by omega) (by omega) (by simp; omega) ?_)
        intro v1 w1 own1 g1 _
        have hb1 := below_of_grown (hb.alloc hz _) g1 (by simp; omega) (hown.alloc _)
        rw [← bv_app] at own1
        have own1' : w1.ownsRow w.heap.size 5 1 v1 (o ++ [s[k]]).length (bv (o ++ [s[k]])) := by simpa using own1
        clear hown g1 own1 hb
        go_wp2
        go_roundw
        case rel => exact ⟨k + 1, o ++ [s[k]], by go_num, by omega, by simp; omega, HO, own1', hb1⟩
        case measure => simp [intOf]; omega
    · have HO := Lib.hid (show o ++ [39] = wsL s.data.toList by
        rw [ho.out, List.take_of_length_le (by simp; omega)]; simp [wsL])
      clear ho
      go_wp2_with (at_builtin; refine wpList_append_own _ rfl _ _ 32 rfl w.heap.size 5 i0 (.int .u8 0) 1 1 Tryd.underlying32 hi hz0 hz1 hz2 rfl (by decide) _ _ _ rfl (hown.alloc _) ⟨wr.heap.size, 0, none⟩ 1 1 (bv [39]) rfl rfl (fun j u hj => cells_new wr _ _ j u hj) (fun y hy => by simp [bv] at hy; subst hy; rfl) (by omega) (by omega) (by simp; omega) ?_)
      intro v1 w1 own1 g1 _
      have hb1 := below_of_grown (hb.alloc hz _) g1 (by simp; omega) (hown.alloc _)
      rw [← bv_app] at own1
      have own1' : w1.ownsRow w.heap.size 5 1 v1 (o ++ [39]).length (bv (o ++ [39])) := by simpa using own1
      have hconv := own_text own1'
      rw [HO.out] at hconv
      clear hown g1 own1 hb own1'
      go_wp2
      go_ret
      exact ⟨rfl, hb1⟩
end Go.Proofs.YtoobbmehjpninaaDoor
