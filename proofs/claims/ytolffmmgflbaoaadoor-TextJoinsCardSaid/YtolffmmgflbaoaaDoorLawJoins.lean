/- The walk of TextJoins. -/
import Derived.Test.YtolffmmgflbaoaaDoorAwake
import Derived.Test.YtolffmmgflbaoaaDoorJoin
namespace Go.Proofs.YtolffmmgflbaoaaDoor
open Go.RowKit

theorem flat_at (done r : List (Nat × Nat × List UInt8)) (x : Nat × Nat × List UInt8) (j : Nat) (hj : j < 3) : ((done ++ x :: r).flatMap lnv)[done.length * 3 + j]? = (lnv x)[j]? := by
  have hl : (done.flatMap lnv).length = done.length * 3 := by
    induction done with
    | nil => rfl
    | cons y d ih => simp [List.flatMap_cons, ih, lnv]; omega
  rw [List.flatMap_append, List.getElem?_append_right (by omega), hl, List.flatMap_cons, List.getElem?_append_left (by simp [lnv]; omega)]
  congr 1; omega

theorem cat_one (a : ByteArray) (x : UInt8) : (a ++ ⟨#[x]⟩).size = a.size + 1 := by rw [ByteArray.size_append]; rfl
theorem cat_arr (a : ByteArray) (X : List UInt8) : (a ++ ⟨X.toArray⟩).size = a.size + X.length := by rw [ByteArray.size_append]; rfl
theorem cat_list (a b : ByteArray) : (a ++ b).data.toList = a.data.toList ++ b.data.toList := by
  simp [ByteArray.data_append]

set_option maxRecDepth 100000 in
set_option maxHeartbeats 4000000 in
theorem textJoins_walk (s : ByteArray) (hs : s.size ≤ maxLen) (w : World) :
    Calls Tryd.prog 5 #[.string s] w fun e w' => e = .returned (.bool true) ∧ Below w.heap.size w w' := by
  unfold maxLen at hs
  by_cases hlong : 2000 < s.size
  · go_enter Tryd.func5, Tryd.ntmps5
    go_wp2_with fail
    refine (awake_any _).mono ?_
    rintro e w1 ⟨rfl, hb⟩
    go_wp2
    go_ret
    exact ⟨rfl, hb⟩
  have hs2 : s.size ≤ 2000 := by omega
  have hx : decide (2000 < s.size) = false := by simp; omega
  clear hs hlong
  go_enter Tryd.func5, Tryd.ntmps5
  go_wp2_with fail
  refine (lines_any s _ (by omega)).mono ?_
  rintro e w1 ⟨v, rfl, hown, hb⟩
  obtain ⟨A, hA⟩ : ∃ A, lns (s.size + 1) s.data.toList 0 = A := ⟨_, rfl⟩
  rw [hA] at hown
  have HA := Lib.hid hA
  clear hA
  have hform : ∃ r cap, v = .slice r A.length cap := by
    rcases hown.2 with ⟨rfl, h0⟩ | ⟨g, cap, cur, rfl, _⟩
    · exact ⟨_, _, by rw [h0]⟩
    · exact ⟨_, _, rfl⟩
  obtain ⟨r, cap, rfl⟩ := hform
  have HO := Lib.hid hown
  clear hown
  have hz1 := hb.size
  go_wp2
  go_loopw [3, 13] (fun tv iv wr => ∃ (T : ByteArray) (done rest : List (Nat × Nat × List UInt8)) (f p m : Nat), tv = .string T ∧ iv = .int .i64 m ∧ Hid (done.length = m) ∧ Hid (T.data.toList = jn done) ∧ Hid (A = done ++ rest) ∧ Hid (rest = lns f (s.data.toList.drop p) p) ∧ s.size + 1 ≤ p + f ∧ p ≤ s.size + 1 ∧ T.size ≤ s.size ∧ m ≤ A.length ∧ Inv s.data.toList done p ∧ Below w1.heap.size w1 wr) (fun _ iv _ => A.length - (intOf iv).toNat)
  case atStart => exact ⟨⟨#[]⟩, [], A, s.size + 1, 0, 0, rfl, rfl, Lib.hid rfl, Lib.hid rfl, Lib.hid rfl, Lib.hid (by rw [← HA.out]; rfl), by omega, by omega, Nat.zero_le _, Nat.zero_le _, .inl ⟨rfl, rfl⟩, Below.refl _ _⟩
  case round =>
    obtain ⟨T, done, rest, f, p, m, rfl, rfl, hM, hT, hA, hR, hf, hp, hTs, hd, hinv, hbr⟩ := hrel
    have hI := Lib.hid hinv
    clear hinv
    cases rest with
    | nil =>
      have hlen : A.length = m := by rw [hA.out, ← hM.out]; simp
      have hpe : s.size ≤ p := by
        have := hR.out
        cases f with
        | zero => omega
        | succ f =>
          rw [lns] at this
          split at this
          · rename_i h0; simp at h0; omega
          · cases this
      have hend := inv_end hI.out (by simpa using hpe)
      rw [← hT.out] at hend
      have hge : ¬ ((m : Int) < (A.length : Int)) := by omega
      have HL := Lib.hid hlen
      clear hlen
      go_wp2_with fail
      refine (awake_any _).mono ?_
      rintro e w2 ⟨rfl, hb2⟩
      have hB : Below w.heap.size w w2 := (hb.trans (hbr.mono hz1)).trans (hb2.mono (Nat.le_trans hz1 hbr.size))
      go_wp2
      · go_ret
        exact ⟨rfl, hB⟩
      · go_ret
        refine ⟨ret_bool ?_, hB⟩
        rw [Lib.toList_data, Lib.toList_data, Lib.toList_data, cat_list]
        rcases hend with h | h
        · simp [h]
        · simp [h]
    | cons x r' =>
      obtain ⟨f', rfl, hpl, hxe, hre⟩ : ∃ f', f = f' + 1 ∧ p < s.size ∧ x = (p, (row (s.data.toList.drop p)).length - (beh (row (s.data.toList.drop p))).length, beh (row (s.data.toList.drop p))) ∧ r' = lns f' (s.data.toList.drop (p + (row (s.data.toList.drop p)).length + 1)) (p + (row (s.data.toList.drop p)).length + 1) := by
        have := hR.out
        cases f with
        | zero => cases this
        | succ f' =>
          rw [lns] at this
          split at this
          · cases this
          · rename_i h0
            obtain ⟨h1, h2⟩ := List.cons.inj this
            exact ⟨f', rfl, by simp at h0; omega, h1, by rw [h2, List.drop_drop]; rfl⟩
      have hal : m < A.length := by rw [hA.out, ← hM.out]; simp
      obtain ⟨g, cap', hv, hnc, hcm, hg, hgl, hc⟩ := own_cells HO.out (by omega)
      cases hv
      have q0 := hc (m * 3 + 0) _ (by rw [← hM.out, hA.out, flat_at _ _ _ _ (by omega), hxe]; rfl)
      have q1 := hc (m * 3 + 1) _ (by rw [← hM.out, hA.out, flat_at _ _ _ _ (by omega), hxe]; rfl)
      have q2 := hc (m * 3 + 2) _ (by rw [← hM.out, hA.out, flat_at _ _ _ _ (by omega), hxe]; rfl)
      rw [← hbr.cell (p := ⟨g, m * 3 + 0, none⟩) hgl] at q0
      rw [← hbr.cell (p := ⟨g, m * 3 + 1, none⟩) hgl] at q1
      rw [← hbr.cell (p := ⟨g, m * 3 + 2, none⟩) hgl] at q2
      simp only [Nat.add_zero] at q0
      have hzr := hbr.size
      have hrl := row_le (s.data.toList.drop p)
      have hbl := beh_le (row (s.data.toList.drop p))
      simp only [List.length_drop, Array.length_toList] at hrl
      obtain ⟨R, hRow⟩ : ∃ R, row (s.data.toList.drop p) = R := ⟨_, rfl⟩
      rw [hRow] at q1 q2 hrl hbl hre hxe
      obtain ⟨X, hX⟩ : ∃ X, beh R = X := ⟨_, rfl⟩
      rw [hX] at q1 q2 hbl hxe
      obtain ⟨k, hk⟩ : ∃ k, R.length - X.length = k := ⟨_, rfl⟩
      rw [hk] at q1 hxe
      have hkx : k + X.length = R.length := by omega
      replace hRow := Lib.hid hRow
      replace hX := Lib.hid hX
      replace hk := Lib.hid hk
      replace hre := Lib.hid hre
      have hk1 : k ≤ R.length := by omega
      have hk2 : R.length ≤ k + X.length := by omega
      have hk3 : k + X.length ≤ R.length := by omega
      have hsz : s.data.size = s.size := rfl
      rw [hsz] at hrl
      clear hkx hc hsz hp hR
      subst hxe
      unfold maxLen at hcm
      by_cases hd0 : m = 0
      · have hdn : done = [] := List.eq_nil_of_length_eq_zero (by rw [hM.out, hd0])
        have hp0 : p = 0 := by
          rcases hI.out with ⟨_, h⟩ | ⟨h, _⟩
          · exact h
          · have := hM.out; omega
        have hTe : T = ⟨#[]⟩ := by
          have := hT.out
          rw [hdn] at this
          apply ByteArray.ext; apply Array.ext'; rw [this]; rfl
        subst hdn hp0 hTe hd0
        clear hT hM
        simp only [Nat.zero_mul, Nat.zero_add] at q0 q1 q2
        go_wp2_with fail
        go_loop [3, 39] (fun tv jv => ∃ (U : ByteArray) (j : Nat), tv = .string U ∧ jv = .int .i64 j ∧ j ≤ k ∧ U.size ≤ 0 + j ∧ 0 + j ≤ U.size ∧ Hid (U.data.toList = [] ++ List.replicate j 32)) (fun _ jv => k - (intOf jv).toNat)
        case atStart => exact ⟨⟨#[]⟩, 0, rfl, rfl, by omega, Nat.le_refl 0, Nat.le_refl 0, Lib.hid (by simp)⟩
        case round =>
          obtain ⟨U, j, rfl, rfl, hj, hU1, hU2, hU⟩ := hrel
          by_cases hjk : j < k
          · go_wp2
            go_round
            case rel => exact ⟨U ++ ⟨#[32]⟩, j + 1, rfl, by go_num, by omega, by rw [cat_one]; omega, by rw [cat_one]; omega, Lib.hid (by rw [cat_list, hU.out, List.replicate_succ']; simp)⟩
            case measure => simp [intOf]; omega
          · have hjk' : j = k := by omega
            have HJ := Lib.hid hjk'
            clear hjk'
            go_wp2
            go_roundw
            case rel =>
              refine ⟨U ++ ⟨X.toArray⟩, [(0, k, X)], r', f', 0 + R.length + 1, 1, rfl, by simp, Lib.hid rfl, Lib.hid ?_, Lib.hid (by rw [hA.out]; simp), hre, by omega, by omega, by rw [cat_arr]; omega, by omega, ?_, ?_⟩
              · rw [cat_list, hU.out, HJ.out, jn_first]
                simp [fl]
              · have := inv_step hI.out (by simpa using hpl)
                rw [hRow.out, hX.out, hk.out] at this
                exact this
              · exact (hbr.alloc hzr _)
            case measure => simp [intOf]; omega
      · have hdp : 0 < done.length := by have := hM.out; omega
        have hpT : T.size + 1 = p := by
          have := inv_len hI.out hdp
          rw [← hT.out] at this; simpa using this
        subst hpT
        go_wp2_with fail
        go_loop [3, 39] (fun tv jv => ∃ (U : ByteArray) (j : Nat), tv = .string U ∧ jv = .int .i64 j ∧ j ≤ k ∧ U.size ≤ (T.size + 1) + j ∧ (T.size + 1) + j ≤ U.size ∧ Hid (U.data.toList = (T.data.toList ++ [10]) ++ List.replicate j 32)) (fun _ jv => k - (intOf jv).toNat)
        case atStart => exact ⟨T ++ ⟨#[10]⟩, 0, rfl, rfl, by omega, by rw [cat_one]; omega, by rw [cat_one]; omega, Lib.hid (by rw [cat_list]; simp)⟩
        case round =>
          obtain ⟨U, j, rfl, rfl, hj, hU1, hU2, hU⟩ := hrel
          by_cases hjk : j < k
          · go_wp2
            go_round
            case rel => exact ⟨U ++ ⟨#[32]⟩, j + 1, rfl, by go_num, by omega, by rw [cat_one]; omega, by rw [cat_one]; omega, Lib.hid (by rw [cat_list, hU.out, List.replicate_succ']; simp)⟩
            case measure => simp [intOf]; omega
          · have hjk' : j = k := by omega
            have HJ := Lib.hid hjk'
            clear hjk'
            go_wp2
            go_roundw
            case rel =>
              refine ⟨U ++ ⟨X.toArray⟩, done ++ [(T.size + 1, k, X)], r', f', T.size + 1 + R.length + 1, m + 1, rfl, by go_num, Lib.hid (by simp [hM.out]), Lib.hid ?_, Lib.hid (by rw [hA.out]; simp), hre, by omega, by omega, by rw [cat_arr]; omega, by omega, ?_, ?_⟩
              · rw [cat_list, hU.out, HJ.out, jn_snoc _ _ hdp, ← hT.out]
                simp [fl, List.append_assoc]
              · have := inv_step hI.out (by simpa using hpl)
                rw [hRow.out, hX.out, hk.out] at this
                exact this
              · exact (hbr.alloc hzr _)
            case measure => simp [intOf]; omega
end Go.Proofs.YtolffmmgflbaoaaDoor
