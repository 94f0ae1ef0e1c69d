/- The walk of the document's WriteDouble. -/
import Derived.Test.YtoobbmehjpninaaDoorWDoubleP
import Derived.Test.YtoobbmehjpninaaDoorWSingle
import Derived.Test.YtoobbmehjpninaaDoorBts
import Derived.Test.YtoobbmehjpninaaDoorSmall
import Derived.Test.YtoobbmehjpninaaDoorCharAll
import Derived.Test.YtoobbmehjpninaaDoorSign
import Derived.Test.YtoobbmehjpninaaDoorPlc
namespace Go.Proofs.YtoobbmehjpninaaDoor
open Go.RowKit

set_option maxRecDepth 100000 in
set_option maxHeartbeats 16000000 in
theorem refWDouble_any (s : ByteArray) (w : World) (hs : s.size ≤ 10000) :
    Calls Tryd.prog 9 #[.string s] w fun e w' => e = .returned (.string ⟨(wdL s).toArray⟩) ∧ Below w.heap.size w w' := by
  obtain ⟨i0, hi, hz0, hz1, hz2⟩ := info_parts infoB
  have hmx : (100000 : Nat) ≤ maxLen := by decide
  go_enter Tryd.func9, Tryd.ntmps9
  go_wp2
  go_loopw [3, 4] (fun v j wr => ∃ (i f : Nat) (o : List UInt8), j = .int .i64 i ∧ i ≤ s.size ∧ s.size ≤ i + f ∧ o.length ≤ 6 * i + 1 ∧ Hid (o ++ wdF s f i = 34 :: wdF s s.size 0) ∧ wr.ownsRow w.heap.size 5 1 v o.length (bv o) ∧ Below w.heap.size w wr) (fun _ j _ => s.size - (intOf j).toNat)
  case atStart => exact ⟨0, s.size, [34], rfl, by omega, by omega, by simp, Lib.hid (by simp), own_lit w [34] (by decide) _ (Nat.le_refl _), (Below.refl _ _).alloc (Nat.le_refl _) _⟩
  case round =>
    obtain ⟨i, f, o, rfl, hi', hf, hol, hp, hown, hb⟩ := hrel
    by_cases hlt : i < s.size
    · obtain ⟨f, rfl⟩ : ∃ g, f = g + 1 := ⟨f - 1, by omega⟩
      have hw := wd_le s i hlt
      have hw1 := wd_pos s i
      have hcl := chr_le s i
      have hcw := chr_wd s i
      have hdc : dcN s i = if (chr s i).2 = 0 then (65533, 1) else chr s i := rfl
      obtain ⟨cm, hcm⟩ : ∃ cm, chr s i = cm := ⟨_, rfl⟩
      rw [hcm] at hcl hcw hdc
      have HCM := Lib.hid hcm
      obtain ⟨c, m⟩ := cm
      simp only at hcl hcw hdc
      have hstep : ∀ c' m', dcN s i = (c', m') → Hid (o ++ escW c' ++ wdF s f (i + m') = 34 :: wdF s s.size 0) := fun c' m' h => Lib.hid (by
        rw [← hp.out, wdF_step hlt h, List.append_assoc])
      clear hcm hp
      go_wp2_with fail
      refine (char_any s i _ hlt (by unfold maxLen; omega)).mono ?_
      rintro x w' ⟨rfl, z, rfl⟩
      rw [HCM.out]
      replace hown := own_drewN hown z
      replace hb := bel_drewN hb z
      generalize wr.drewN z = wz at *
      have hz := hb.size
      rcases hcw with ⟨z1, z2⟩ | ⟨z1, z2⟩
      · have t1 : ((m : Int) == 0) = true := by simp [z1]
        have hP := hstep 65533 1 (by rw [hdc, if_pos z1])
        have hm3 : i + 1 ≤ s.size := by omega
        have HSG := Lib.hid (show signB 65533 = true by decide +kernel)
        have HEW := Lib.hid (show escW 65533 = encB 65533 by decide +kernel)
        clear z1 z2 hdc hstep hw hw1
        have HP := hP
        clear hP
        go_wp2_with fail
        refine (refSign_any 65533 _ (by decide)).mono ?_
        rintro x w' ⟨rfl, rfl⟩
        rw [HSG.out]
        have hle := encB_len 65533
        go_wp2_with fail
        refine (bytes_any 65533 _ (by omega)).mono ?_
        rintro x w1 ⟨v1, rfl, ownb, hbb⟩
        rcases ownb.2 with ⟨_, h0⟩ | ⟨g, cap, cur, rfl, hg, hgg, _⟩
        · omega
        have hcb := fun j u (hj : (bv (encB 65533))[j]? = some u) => ownb.cells (g := g) rfl j u hj
        have own1 := own_below hown hbb
        have hb1 := hb.trans (hbb.mono hz)
        have hz1' := hb1.size
        have HCB := Lib.hid hcb
        clear hown ownb hbb hb hcb hgg
        go_wp2_with (at_builtin; refine wpList_append_own _ rfl _ _ 32 rfl w.heap.size 5 i0 (.int .u8 0) 1 1 Tryd.underlying32 hi hz0 hz1 hz2 rfl (by decide) _ _ _ rfl own1 ⟨g, 0, none⟩ (encB 65533).length cap (bv (encB 65533)) rfl (by rw [bv_len]; simp) HCB.out (fun y hy => by simp only [bv, List.mem_map] at hy; obtain ⟨_, _, rfl⟩ := hy; rfl) (by omega) (by omega) (by omega) ?_)
        intro v2 w2 own2 g2 _
        have hb2 := below_of_grown hb1 g2 hz1' own1
        rw [← bv_app] at own2
        have own2' : w2.ownsRow w.heap.size 5 1 v2 (o ++ encB 65533).length (bv (o ++ encB 65533)) := by rw [List.length_append]; exact own2
        clear own1 g2 own2 hb1 HCB
        go_wp2
        go_roundw
        case rel => exact ⟨i + 1, f, o ++ escW 65533, by go_num, hm3, by omega, esc_tot hol (Nat.le_refl 1), HP, by rw [HEW.out]; exact own2', hb2⟩
        case measure => simp [intOf]; omega
      · have t1 : ((m : Int) == 0) = false := by simp only [beq_eq_false_iff_ne, ne_eq]; omega
        have HP := hstep c m (by rw [hdc, if_neg z1])
        have hm3 : i + m ≤ s.size := by omega
        have hm1 : 1 ≤ m := by omega
        have hc0 : c ≤ 1114111 := hcl
        clear z1 z2 hdc hstep hw hw1
        by_cases c34 : c = 34
        · subst c34
          have HEW := Lib.hid (show escW 34 = [92, 34] by decide +kernel)
          clear hc0
          go_wp2_with (at_builtin; refine wpList_append_own _ rfl _ _ 32 rfl w.heap.size 5 i0 (.int .u8 0) 1 1 Tryd.underlying32 hi hz0 hz1 hz2 rfl (by decide) _ _ _ rfl (hown.alloc _) ⟨wz.heap.size, 0, none⟩ 2 2 (bv [92, 34]) rfl rfl (fun j u hj => cells_new wz _ _ j u hj) (fun y hy => by simp only [bv, List.mem_map] at hy; obtain ⟨_, _, rfl⟩ := hy; rfl) (by omega) (by omega) (by simp; omega) ?_)
          intro v1 w1 own1 g1 _
          have hb1 := below_of_grown (hb.alloc hz _) g1 (by simp; omega) (hown.alloc _)
          rw [← bv_app] at own1
          have own1' : w1.ownsRow w.heap.size 5 1 v1 (o ++ [92, 34]).length (bv (o ++ [92, 34])) := by rw [List.length_append]; exact own1
          clear hown g1 own1 hb
          go_wp2
          go_roundw
          case rel => exact ⟨i + m, f, o ++ escW 34, by go_num, hm3, by omega, esc_tot hol hm1, HP, by rw [HEW.out]; exact own1', hb1⟩
          case measure => simp [intOf]; omega
        by_cases c92 : c = 92
        · subst c92
          have HEW := Lib.hid (show escW 92 = [92, 92] by decide +kernel)
          clear hc0
          go_wp2_with (at_builtin; refine wpList_append_own _ rfl _ _ 32 rfl w.heap.size 5 i0 (.int .u8 0) 1 1 Tryd.underlying32 hi hz0 hz1 hz2 rfl (by decide) _ _ _ rfl (hown.alloc _) ⟨wz.heap.size, 0, none⟩ 2 2 (bv [92, 92]) rfl rfl (fun j u hj => cells_new wz _ _ j u hj) (fun y hy => by simp only [bv, List.mem_map] at hy; obtain ⟨_, _, rfl⟩ := hy; rfl) (by omega) (by omega) (by simp; omega) ?_)
          intro v1 w1 own1 g1 _
          have hb1 := below_of_grown (hb.alloc hz _) g1 (by simp; omega) (hown.alloc _)
          rw [← bv_app] at own1
          have own1' : w1.ownsRow w.heap.size 5 1 v1 (o ++ [92, 92]).length (bv (o ++ [92, 92])) := by rw [List.length_append]; exact own1
          clear hown g1 own1 hb
          go_wp2
          go_roundw
          case rel => exact ⟨i + m, f, o ++ escW 92, by go_num, hm3, by omega, esc_tot hol hm1, HP, by rw [HEW.out]; exact own1', hb1⟩
          case measure => simp [intOf]; omega
        have n34 : ((c : Int) == 34) = false := by simp only [beq_eq_false_iff_ne, ne_eq]; omega
        have n92 : ((c : Int) == 92) = false := by simp only [beq_eq_false_iff_ne, ne_eq]; omega
        by_cases c10 : c = 10
        · subst c10
          have HEW := Lib.hid (show escW 10 = [92, 110] by decide +kernel)
          clear hc0
          go_wp2_with (at_builtin; refine wpList_append_own _ rfl _ _ 32 rfl w.heap.size 5 i0 (.int .u8 0) 1 1 Tryd.underlying32 hi hz0 hz1 hz2 rfl (by decide) _ _ _ rfl (hown.alloc _) ⟨wz.heap.size, 0, none⟩ 2 2 (bv [92, 110]) rfl rfl (fun j u hj => cells_new wz _ _ j u hj) (fun y hy => by simp only [bv, List.mem_map] at hy; obtain ⟨_, _, rfl⟩ := hy; rfl) (by omega) (by omega) (by simp; omega) ?_)
          intro v1 w1 own1 g1 _
          have hb1 := below_of_grown (hb.alloc hz _) g1 (by simp; omega) (hown.alloc _)
          rw [← bv_app] at own1
          have own1' : w1.ownsRow w.heap.size 5 1 v1 (o ++ [92, 110]).length (bv (o ++ [92, 110])) := by rw [List.length_append]; exact own1
          clear hown g1 own1 hb
          go_wp2
          go_roundw
          case rel => exact ⟨i + m, f, o ++ escW 10, by go_num, hm3, by omega, esc_tot hol hm1, HP, by rw [HEW.out]; exact own1', hb1⟩
          case measure => simp [intOf]; omega
        by_cases c9 : c = 9
        · subst c9
          have HEW := Lib.hid (show escW 9 = [92, 116] by decide +kernel)
          clear hc0
          go_wp2_with (at_builtin; refine wpList_append_own _ rfl _ _ 32 rfl w.heap.size 5 i0 (.int .u8 0) 1 1 Tryd.underlying32 hi hz0 hz1 hz2 rfl (by decide) _ _ _ rfl (hown.alloc _) ⟨wz.heap.size, 0, none⟩ 2 2 (bv [92, 116]) rfl rfl (fun j u hj => cells_new wz _ _ j u hj) (fun y hy => by simp only [bv, List.mem_map] at hy; obtain ⟨_, _, rfl⟩ := hy; rfl) (by omega) (by omega) (by simp; omega) ?_)
          intro v1 w1 own1 g1 _
          have hb1 := below_of_grown (hb.alloc hz _) g1 (by simp; omega) (hown.alloc _)
          rw [← bv_app] at own1
          have own1' : w1.ownsRow w.heap.size 5 1 v1 (o ++ [92, 116]).length (bv (o ++ [92, 116])) := by rw [List.length_append]; exact own1
          clear hown g1 own1 hb
          go_wp2
          go_roundw
          case rel => exact ⟨i + m, f, o ++ escW 9, by go_num, hm3, by omega, esc_tot hol hm1, HP, by rw [HEW.out]; exact own1', hb1⟩
          case measure => simp [intOf]; omega
        have n10 : ((c : Int) == 10) = false := by simp only [beq_eq_false_iff_ne, ne_eq]; omega
        have n9 : ((c : Int) == 9) = false := by simp only [beq_eq_false_iff_ne, ne_eq]; omega
        cases hsg : signB c with
        | true =>
          have HSG := Lib.hid hsg
          have HEW := Lib.hid (show escW c = encB c by unfold escW; rw [if_neg (by omega), if_neg (by omega), if_neg (by omega), if_pos hsg])
          clear hsg hc0 c34 c92 c10 c9
          go_wp2_with fail
          refine (refSign_any c _ (by omega)).mono ?_
          rintro x w' ⟨rfl, rfl⟩
          rw [HSG.out]
          have hle := encB_len c
          go_wp2_with fail
          refine (bytes_any c _ (by omega)).mono ?_
          rintro x w1 ⟨v1, rfl, ownb, hbb⟩
          rcases ownb.2 with ⟨_, h0⟩ | ⟨g, cap, cur, rfl, hg, hgg, _⟩
          · omega
          have hcb := fun j u (hj : (bv (encB c))[j]? = some u) => ownb.cells (g := g) rfl j u hj
          have own1 := own_below hown hbb
          have hb1 := hb.trans (hbb.mono hz)
          have hz1' := hb1.size
          have HCB := Lib.hid hcb
          clear hown ownb hbb hb hcb hgg
          go_wp2_with (at_builtin; refine wpList_append_own _ rfl _ _ 32 rfl w.heap.size 5 i0 (.int .u8 0) 1 1 Tryd.underlying32 hi hz0 hz1 hz2 rfl (by decide) _ _ _ rfl own1 ⟨g, 0, none⟩ (encB c).length cap (bv (encB c)) rfl (by rw [bv_len]; simp) HCB.out (fun y hy => by simp only [bv, List.mem_map] at hy; obtain ⟨_, _, rfl⟩ := hy; rfl) (by omega) (by omega) (by omega) ?_)
          intro v2 w2 own2 g2 _
          have hb2 := below_of_grown hb1 g2 hz1' own1
          rw [← bv_app] at own2
          have own2' : w2.ownsRow w.heap.size 5 1 v2 (o ++ encB c).length (bv (o ++ encB c)) := by rw [List.length_append]; exact own2
          clear own1 g2 own2 hb1 HCB
          go_wp2
          go_roundw
          case rel => exact ⟨i + m, f, o ++ escW c, by go_num, hm3, by omega, esc_tot hol hm1, HP, by rw [HEW.out]; exact own2', hb2⟩
          case measure => simp [intOf]; omega
        | false =>
          have HSG := Lib.hid hsg
          by_cases h256 : c < 256
          · skip
            have HEW := Lib.hid (show escW c = [92, 120] ++ smallL c 2 by unfold escW; rw [if_neg (by omega), if_neg (by omega), if_neg (by omega), if_neg (by rw [hsg]; decide), if_pos h256])
            have hsl := smallL_len c 2
            clear hc0
            clear hsg
            go_wp2_with fail
            refine (refSign_any c _ (by omega)).mono ?_
            rintro x w' ⟨rfl, rfl⟩
            rw [HSG.out]
            go_wp2_with (at_builtin; refine wpList_append_own _ rfl _ _ 32 rfl w.heap.size 5 i0 (.int .u8 0) 1 1 Tryd.underlying32 hi hz0 hz1 hz2 rfl (by decide) _ _ _ rfl (hown.alloc _) ⟨wz.heap.size, 0, none⟩ 2 2 (bv [92, 120]) rfl rfl (fun j u hj => cells_new wz _ _ j u hj) (fun y hy => by simp only [bv, List.mem_map] at hy; obtain ⟨_, _, rfl⟩ := hy; rfl) (by omega) (by omega) (by simp; omega) ?_)
            intro v1 w1 own1 g1 _
            have hb1 := below_of_grown (hb.alloc hz _) g1 (by simp; omega) (hown.alloc _)
            have hzs := hb1.size
            rw [← bv_app] at own1
            have own1' : w1.ownsRow w.heap.size 5 1 v1 (o ++ [92, 120]).length (bv (o ++ [92, 120])) := by rw [List.length_append]; exact own1
            have hl1 : (o ++ [92, 120] : List UInt8).length = o.length + 2 := by simp
            generalize hO1 : (o ++ [92, 120] : List UInt8) = o1 at *
            have HO1 := Lib.hid hO1
            clear hown g1 own1 hb hO1
            go_wp2_with fail
            refine (small_any c 2 _ (by omega) (by decide)).mono ?_
            rintro x w2 ⟨v2, rfl, ownb, hbb⟩
            obtain ⟨L, hL⟩ : ∃ L, L = smallL c 2 := ⟨_, rfl⟩
            rw [← hL] at ownb hsl HEW
            clear hL
            rw [← hsl] at ownb
            have hsp : 0 < L.length := by omega
            replace hsl : L.length ≤ 4 := by omega
            rcases ownb.2 with ⟨_, h0⟩ | ⟨g, cap, cur, rfl, hg, hgg, _⟩
            · omega
            have hcb := fun j u (hj : (bv L)[j]? = some u) => ownb.cells (g := g) rfl j u hj
            have own2 := own_below own1' hbb
            have hb2 := hb1.trans (hbb.mono hzs)
            have hz2' := hb2.size
            have HCB := Lib.hid hcb
            clear own1' ownb hbb hb1 hcb hgg
            go_wp2_with (at_builtin; refine wpList_append_own _ rfl _ _ 32 rfl w.heap.size 5 i0 (.int .u8 0) 1 1 Tryd.underlying32 hi hz0 hz1 hz2 rfl (by decide) _ _ _ rfl own2 ⟨g, 0, none⟩ (L).length cap (bv (L)) rfl (by rw [bv_len]; simp) HCB.out (fun y hy => by simp only [bv, List.mem_map] at hy; obtain ⟨_, _, rfl⟩ := hy; rfl) (by omega) (by omega) (by omega) ?_)
            intro v3 w3 own3 g3 _
            have hb3 := below_of_grown hb2 g3 hz2' own2
            rw [← bv_app] at own3
            have own3' : w3.ownsRow w.heap.size 5 1 v3 (o ++ ([92, 120] ++ L)).length (bv (o ++ ([92, 120] ++ L))) := by rw [← List.append_assoc, HO1.out, List.length_append, hl1]; exact own3
            clear own2 g3 own3 hb2 HCB
            go_wp2
            go_roundw
            case rel => exact ⟨i + m, f, o ++ escW c, by go_num, hm3, by omega, esc_tot hol hm1, HP, by rw [HEW.out]; exact own3', hb3⟩
            case measure => simp [intOf]; omega
          · skip
            have h64 : c < 65536 := by
              have h6 := hsg
              unfold signB at h6
              simp at h6; omega
            have HEW := Lib.hid (show escW c = [92, 117] ++ smallL c 4 by unfold escW; rw [if_neg (by omega), if_neg (by omega), if_neg (by omega), if_neg (by rw [hsg]; decide), if_neg h256])
            have hsl := smallL_len c 4
            clear hc0
            clear hsg
            go_wp2_with fail
            refine (refSign_any c _ (by omega)).mono ?_
            rintro x w' ⟨rfl, rfl⟩
            rw [HSG.out]
            go_wp2_with (at_builtin; refine wpList_append_own _ rfl _ _ 32 rfl w.heap.size 5 i0 (.int .u8 0) 1 1 Tryd.underlying32 hi hz0 hz1 hz2 rfl (by decide) _ _ _ rfl (hown.alloc _) ⟨wz.heap.size, 0, none⟩ 2 2 (bv [92, 117]) rfl rfl (fun j u hj => cells_new wz _ _ j u hj) (fun y hy => by simp only [bv, List.mem_map] at hy; obtain ⟨_, _, rfl⟩ := hy; rfl) (by omega) (by omega) (by simp; omega) ?_)
            intro v1 w1 own1 g1 _
            have hb1 := below_of_grown (hb.alloc hz _) g1 (by simp; omega) (hown.alloc _)
            have hzs := hb1.size
            rw [← bv_app] at own1
            have own1' : w1.ownsRow w.heap.size 5 1 v1 (o ++ [92, 117]).length (bv (o ++ [92, 117])) := by rw [List.length_append]; exact own1
            have hl1 : (o ++ [92, 117] : List UInt8).length = o.length + 2 := by simp
            generalize hO1 : (o ++ [92, 117] : List UInt8) = o1 at *
            have HO1 := Lib.hid hO1
            clear hown g1 own1 hb hO1
            go_wp2_with fail
            refine (small_any c 4 _ (by omega) (by decide)).mono ?_
            rintro x w2 ⟨v2, rfl, ownb, hbb⟩
            obtain ⟨L, hL⟩ : ∃ L, L = smallL c 4 := ⟨_, rfl⟩
            rw [← hL] at ownb hsl HEW
            clear hL
            rw [← hsl] at ownb
            have hsp : 0 < L.length := by omega
            replace hsl : L.length ≤ 4 := by omega
            rcases ownb.2 with ⟨_, h0⟩ | ⟨g, cap, cur, rfl, hg, hgg, _⟩
            · omega
            have hcb := fun j u (hj : (bv L)[j]? = some u) => ownb.cells (g := g) rfl j u hj
            have own2 := own_below own1' hbb
            have hb2 := hb1.trans (hbb.mono hzs)
            have hz2' := hb2.size
            have HCB := Lib.hid hcb
            clear own1' ownb hbb hb1 hcb hgg
            go_wp2_with (at_builtin; refine wpList_append_own _ rfl _ _ 32 rfl w.heap.size 5 i0 (.int .u8 0) 1 1 Tryd.underlying32 hi hz0 hz1 hz2 rfl (by decide) _ _ _ rfl own2 ⟨g, 0, none⟩ (L).length cap (bv (L)) rfl (by rw [bv_len]; simp) HCB.out (fun y hy => by simp only [bv, List.mem_map] at hy; obtain ⟨_, _, rfl⟩ := hy; rfl) (by omega) (by omega) (by omega) ?_)
            intro v3 w3 own3 g3 _
            have hb3 := below_of_grown hb2 g3 hz2' own2
            rw [← bv_app] at own3
            have own3' : w3.ownsRow w.heap.size 5 1 v3 (o ++ ([92, 117] ++ L)).length (bv (o ++ ([92, 117] ++ L))) := by rw [← List.append_assoc, HO1.out, List.length_append, hl1]; exact own3
            clear own2 g3 own3 hb2 HCB
            go_wp2
            go_roundw
            case rel => exact ⟨i + m, f, o ++ escW c, by go_num, hm3, by omega, esc_tot hol hm1, HP, by rw [HEW.out]; exact own3', hb3⟩
            case measure => simp [intOf]; omega
    · have HS := Lib.hid (show o ++ [34] = wdL s by unfold wdL; rw [← hp.out, wdF_end s f i (by omega)]; simp)
      have hz := hb.size
      clear hp
      go_wp2_with (at_builtin; refine wpList_append_own _ rfl _ _ 32 rfl w.heap.size 5 i0 (.int .u8 0) 1 1 Tryd.underlying32 hi hz0 hz1 hz2 rfl (by decide) _ _ _ rfl (hown.alloc _) ⟨wr.heap.size, 0, none⟩ 1 1 (bv [34]) rfl rfl (fun j u hj => cells_new wr _ _ j u hj) (fun y hy => by simp only [bv, List.mem_map] at hy; obtain ⟨_, _, rfl⟩ := hy; rfl) (by omega) (by omega) (by simp; omega) ?_)
      intro v1 w1 own1 g1 _
      have hb1 := below_of_grown (hb.alloc hz _) g1 (by simp; omega) (hown.alloc _)
      rw [← bv_app] at own1
      have own1' : w1.ownsRow w.heap.size 5 1 v1 (o ++ [34]).length (bv (o ++ [34])) := by rw [List.length_append]; exact own1
      have hconv := own_text own1'
      rw [HS.out] at hconv
      clear hown g1 own1 hb own1'
      go_wp2
      go_ret
      exact ⟨rfl, hb1⟩
end Go.Proofs.YtoobbmehjpninaaDoor
