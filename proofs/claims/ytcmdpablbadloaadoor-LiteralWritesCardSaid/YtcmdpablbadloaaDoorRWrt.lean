/- The walk of the document's Write (layer 6). -/
import Derived.Test.YtcmdpablbadloaaDoorInd
import Derived.Test.YtcmdpablbadloaaDoorCutR
import Derived.Test.YtcmdpablbadloaaDoorBlk
import Derived.Deep.RegionHeld3
import Derived.Deep.DeepCutAuto
import Derived.Deep.AppendLies
import Derived.KernelRfl
namespace Go.Proofs.YtcmdpablbadloaaDoor
open Go.RowKit

theorem rwc_grown {w1 : World} {g k : Nat} {b : ByteArray} {v : Value} {xs : List Value} {W w4 : World} (hg : g < w1.heap.size) (h : RwW w1 g k b v xs W) {o : Obj} (hgr : (W.alloc o).grownBy w4 v.ownBlock) : w4.cell? ⟨g, k, none⟩ = some (.string b) ∧ Below w1.heap.size w1 w4 := by
  have hz := h.2.2.size
  have hb := below_of_grown (h.2.2.alloc hz o) hgr (by simp; omega) (h.2.1.alloc o)
  have hc : w1.cell? ⟨g, k, none⟩ = some (.string b) := (h.2.2.cell (p := ⟨g, k, none⟩) hg).symm.trans h.1
  exact ⟨(hb.cell (p := ⟨g, k, none⟩) hg).trans hc, hb⟩
theorem cat6 (a b : List UInt8) : (⟨a.toArray⟩ : ByteArray) ++ ⟨b.toArray⟩ = ⟨(a ++ b).toArray⟩ := by
  apply ByteArray.ext; simp [ByteArray.data_append]
theorem cutF_mem (s : ByteArray) (f : Nat) : ∀ i b, ∀ x ∈ cutF s f i b, x.size ≤ s.size := by
  induction f with
  | zero => intro i b x hx; cases hx
  | succ f ih =>
    intro i b x hx
    rw [cutF] at hx
    split at hx
    · split at hx
      · rcases List.mem_cons.1 hx with rfl | hx
        · rw [ByteArray.size_extract]; omega
        · exact ih _ _ _ hx
      · exact ih _ _ _ hx
    · cases hx
/-- Does the document's header strip? -/
def hdA (s : ByteArray) : Bool := decide (s.size = 0 ∨ bt s (s.size - 1) ≠ 10)

set_option maxRecDepth 100000 in
set_option maxHeartbeats 8000000 in
theorem refWrite_any (s : ByteArray) (i : Int) (w : World) (hs : s.size ≤ 10000) :
    Calls Tryd.prog 9 #[.string s, .int .i64 i] w fun e w' => ∃ v, e = .returned (.tuple #[.string ⟨(hdN s).toArray⟩, v]) ∧ w'.ownsRow w.heap.size 9 1 v (wrB (ind i) s).length (sv (wrB (ind i) s)) ∧ Below w.heap.size w w' := by
  obtain ⟨n, hn⟩ : ∃ n, ind i = n := ⟨_, rfl⟩
  have hn1 : n ≤ 1000 := hn ▸ ind_le i
  rw [hn]
  have HN := Lib.hid hn
  clear hn
  go_enter Tryd.func9, Tryd.ntmps9
  go_upto_if 12 with (fail)
  go_cut [1] (fun s1 wx => s1 = .int .i64 (max i 0) ∧ w = wx)
  case first =>
    by_cases h0 : i < 0
    · have d0 : decide (i < 0) = true := decide_eq_true h0
      have HE := Lib.hid (show max i 0 = 0 by omega)
      go_wp2
      go_meet
      exact ⟨by rw [HE.out], rfl⟩
    · have d0 : decide (i < 0) = false := decide_eq_false h0
      have HE := Lib.hid (show max i 0 = i by omega)
      go_wp2
      go_meet
      exact ⟨by rw [HE.out], rfl⟩
  case rest =>
    obtain ⟨rfl, rfl⟩ := hcut
    have HM := Lib.hid (show min (max i 0) 1000 = (n : Nat) by rw [← HN.out]; unfold ind; split <;> (try split) <;> omega)
    obtain ⟨m, hm⟩ : ∃ m, max i 0 = m := ⟨_, rfl⟩
    rw [hm] at HM ⊢
    clear hm HN
    go_upto_if 14 with (fail)
    go_cut [1] (fun s1 wx => s1 = .int .i64 (n : Nat) ∧ w = wx)
    case first =>
      by_cases h1 : 1000 < m
      · have d1 : decide (1000 < m) = true := decide_eq_true h1
        have HE := Lib.hid (show ((n : Nat) : Int) = 1000 by rw [← HM.out]; omega)
        go_wp2
        go_meet
        exact ⟨by rw [HE.out], rfl⟩
      · have d1 : decide (1000 < m) = false := decide_eq_false h1
        have HE := Lib.hid (show ((n : Nat) : Int) = m by rw [← HM.out]; omega)
        go_wp2
        go_meet
        exact ⟨by rw [HE.out], rfl⟩
    case rest =>
      obtain ⟨rfl, rfl⟩ := hcut
      clear HM
      go_upto_region 7 with fail
      go_cut [25] (fun s25 wx => s25 = .bool (hdA s) ∧ w = wx)
      case first =>
        by_cases h0 : s.size = 0
        · have q0 : ((s.size : Int) == 0) = true := by simp [h0]
          have HA := Lib.hid (show hdA s = true from decide_eq_true (.inl h0))
          clear h0
          go_wp2
          go_meet
          exact ⟨by rw [HA.out], rfl⟩
        · have q0 : ((s.size : Int) == 0) = false := by simp only [beq_eq_false_iff_ne, ne_eq]; omega
          have hl : s.size - 1 < s.size := by omega
          have hb := bt_get s (s.size - 1) hl
          by_cases h1 : bt s (s.size - 1) = 10
          · have q1 : ((s[s.size - 1].toNat : Int) != 10) = false := by simp only [bne_eq_false_iff_eq]; omega
            have HA := Lib.hid (show hdA s = false from decide_eq_false (fun h => h.elim h0 (fun h2 => h2 h1)))
            clear h1 hb
            go_wp2
            go_meet
            exact ⟨by rw [HA.out], rfl⟩
          · have q1 : ((s[s.size - 1].toNat : Int) != 10) = true := by simp only [bne_iff_ne, ne_eq]; omega
            have HA := Lib.hid (show hdA s = true from decide_eq_true (.inr h1))
            clear h1 hb
            go_wp2
            go_meet
            exact ⟨by rw [HA.out], rfl⟩
      case rest =>
        obtain ⟨rfl, rfl⟩ := hcut
        go_upto_if 25 with fail
        go_cut [7] (fun s7 wx => s7 = .string ⟨(hdN s).toArray⟩ ∧ w = wx)
        case first =>
          cases hA : hdA s with
          | true =>
            have HD := Lib.hid (show hdN s = [124, 45] by unfold hdN; rw [if_pos (of_decide_eq_true hA)])
            clear hA
            go_wp2
            go_meet
            exact ⟨by rw [HD.out], rfl⟩
          | false =>
            have hA' := of_decide_eq_false hA
            clear hA
            by_cases h1 : 1 < s.size
            · have d1 : decide ((1 : Int) < (s.size : Int)) = true := decide_eq_true (by omega)
              have hl : s.size - 2 < s.size := by omega
              have hb := bt_get s (s.size - 2) hl
              by_cases h2 : bt s (s.size - 2) = 10
              · have q2 : ((s[s.size - 2].toNat : Int) == 10) = true := by simp only [beq_iff_eq]; omega
                have HD := Lib.hid (show hdN s = [124, 43] by unfold hdN; rw [if_neg hA', if_pos ⟨h1, h2⟩])
                clear hA' h2 hb
                go_wp2
                go_meet
                exact ⟨by rw [HD.out], rfl⟩
              · have q2 : ((s[s.size - 2].toNat : Int) == 10) = false := by simp only [beq_eq_false_iff_ne, ne_eq]; omega
                have HD := Lib.hid (show hdN s = [124] by unfold hdN; rw [if_neg hA', if_neg (fun h => h2 h.2)])
                clear hA' h2 hb
                go_wp2
                go_meet
                exact ⟨by rw [HD.out], rfl⟩
            · have d1 : decide ((1 : Int) < (s.size : Int)) = false := decide_eq_false (by omega)
              have HD := Lib.hid (show hdN s = [124] by unfold hdN; rw [if_neg hA', if_neg (fun h => h1 h.1)])
              clear hA'
              go_wp2
              go_meet
              exact ⟨by rw [HD.out], rfl⟩
        case rest =>
          obtain ⟨rfl, rfl⟩ := hcut
          go_wp2_with fail
          refine (refCut_any s _ (by omega)).mono ?_
          rintro e w1 ⟨v, rfl, hown, hb⟩
          have hcl := cutB_len s
          obtain ⟨d, x, hdx⟩ : ∃ d x, cutB s = d ++ [x] := by
            have hne : cutB s ≠ [] := by have := cutB_pos s; intro h; rw [h] at this; simp at this
            exact ⟨(cutB s).dropLast, (cutB s).getLast hne, (List.dropLast_concat_getLast hne).symm⟩
          have HW := Lib.hid (wrB_cut n s hdx)
          have hsz : ∀ x ∈ cutB s, x.size ≤ s.size := cutF_mem s _ 0 0
          rw [hdx] at hown hcl hsz
          obtain ⟨g, cap, rfl, hnc, hcm, hg, hgl, hc⟩ := own_cellsS hown (by simp)
          have hxl := hc d.length x (by simp)
          obtain ⟨xl, rfl⟩ : ∃ xl, x = ⟨List.toArray xl⟩ := ⟨x.data.toList, (mk_list x).symm⟩
          have hl1 : (d ++ [(⟨xl.toArray⟩ : ByteArray)]).length = d.length + 1 := by simp
          rw [hl1] at hnc hcl ⊢
          have HC := Lib.hid hc
          have hdl : ((d.length + 1 : Nat) : Int) - 1 = (d.length : Int) := by omega
          clear hown hc hl1 hdx
          have hms : ∀ x ∈ d ++ [(⟨xl.toArray⟩ : ByteArray)], x.size ≤ s.size := hsz
          obtain ⟨M, hM⟩ : ∃ M, (if (⟨xl.toArray⟩ : ByteArray).size = 0 then d else d ++ [⟨xl.toArray⟩]) = M := ⟨_, rfl⟩
          have hM0 : xl = [] → M.length = d.length := fun e => by rw [← hM, if_pos (by rw [e]; rfl)]
          have hM1 : xl ≠ [] → M.length = d.length + 1 := fun e => by
            rw [← hM, if_neg (by show ¬ xl.length = 0; intro h; exact e (List.eq_nil_of_length_eq_zero h))]; simp
          have hMl : M.length ≤ d.length + 1 := by
            by_cases e : xl = []
            · have := hM0 e; omega
            · have := hM1 e; omega
          have HMC := Lib.hid (show ∀ j b, M[j]? = some b → w1.cell? ⟨g, j, none⟩ = some (.string b) from fun j b h => by
            refine HC.out j b ?_
            rw [← hM] at h
            split at h
            · rw [List.getElem?_append_left (List.getElem?_eq_some_iff.1 h).1]; exact h
            · exact h)
          obtain ⟨P, hP⟩ : ∃ P, M.map (fun b => preB n b.data.toList) = P := ⟨_, rfl⟩
          have hPl : P.length = M.length := by rw [← hP]; simp
          have HPW := Lib.hid (show wrB n s = P by rw [HW.out, hM, hP])
          have HPS := Lib.hid (show ∀ k b, M[k]? = some b → P.take (k + 1) = P.take k ++ [preB n b.data.toList] from fun k b h => by
            rw [List.take_add_one, ← hP, List.getElem?_map, h]; rfl)
          have HMS := Lib.hid (show ∀ x ∈ M, x.size ≤ s.size from fun x hx => by
            rw [← hM] at hx
            split at hx
            · exact hms x (List.mem_append_left _ hx)
            · exact hms x hx)
          have HM0 := Lib.hid hM0
          have HM1 := Lib.hid hM1
          clear hM hP hM0 hM1 HW HC hms hsz
          go_upto_if 43 with (fail)
          go_cut [8] (fun s8 wx => s8 = .slice (some ⟨g, 0, none⟩) M.length cap ∧ w1 = wx)
          case first =>
            cases xl with
            | nil =>
              have HE := Lib.hid (HM0.out rfl)
              clear HM0 HM1
              go_wp2
              go_meet
              exact ⟨by rw [HE.out], rfl⟩
            | cons c xl =>
              have HE := Lib.hid (HM1.out (by simp))
              clear HM0 HM1
              go_wp2
              go_meet
              exact ⟨by rw [HE.out], rfl⟩
          case rest =>
            obtain ⟨rfl, rfl⟩ := hcut
            clear HM0 HM1 hxl hdl
            obtain ⟨i0, hi, hz0, hz1, hz2⟩ := info_parts infoS
            have hmx : (1000000 : Nat) < maxLen := by decide
            have hw1 := hb.size
            go_wp2
            go_loopw [9, 10] (fun v j wr => ∃ k : Nat, j = .int .i64 k ∧ k ≤ M.length ∧ wr.ownsRow w1.heap.size 9 1 v k (sv (P.take k)) ∧ Below w1.heap.size w1 wr) (fun _ j _ => M.length - (intOf j).toNat)
            case atStart => exact ⟨0, rfl, by omega, World.ownsRow_nil _ _ _ _, Below.refl _ _⟩
            case round =>
              obtain ⟨k, rfl, hk, hown, hb2⟩ := hrel
              have hz := hb2.size
              by_cases hlt : k < M.length
              · obtain ⟨b, hbM⟩ : ∃ b, M[k]? = some b := ⟨_, List.getElem?_eq_getElem hlt⟩
                have hcell := (hb2.cell (p := ⟨g, k, none⟩) hgl).trans (HMC.out k b hbM)
                have HP := Lib.hid (HPS.out k b hbM)
                have hbs := HMS.out b (List.mem_of_getElem? hbM)
                obtain ⟨bl, rfl⟩ : ∃ bl, b = ⟨List.toArray bl⟩ := ⟨b.data.toList, (mk_list b).symm⟩
                clear hbM
                cases bl with
                | nil =>
                  have HP2 := Lib.hid (show P.take (k + 1) = P.take k ++ [⟨#[]⟩] from HP.out)
                  clear HP
                  go_wp2_with (at_builtin; refine wpList_append_own _ rfl _ _ 31 rfl w1.heap.size 9 i0 (.string ⟨#[]⟩) 1 16 Tryd.underlying31 hi hz0 hz1 hz2 rfl (by decide) _ _ _ rfl (hown.alloc _) ⟨wr.heap.size, 0, none⟩ 1 1 (sv [⟨#[]⟩]) rfl rfl (fun j u hj => cells_new wr _ _ j u hj) (fun y hy => by simp [sv] at hy; subst hy; rfl) (by omega) (by omega) (by simp; omega) ?_)
                  intro v1 w2 own1 g1 _
                  have hb3 := below_of_grown (hb2.alloc hz _) g1 (by simp; omega) (hown.alloc _)
                  rw [← sv_app, ← HP2.out] at own1
                  clear hown g1 hb2 hcell
                  go_wp2
                  go_roundw
                  case rel => exact ⟨k + 1, by go_num, by omega, own1, hb3⟩
                  case measure => simp [intOf]; omega
                | cons c bl =>
                  have HP2 := Lib.hid (show P.take (k + 1) = P.take k ++ [⟨(blk n ++ (c :: bl)).toArray⟩] from HP.out)
                  have hl : (P.take k).length = k := by rw [List.length_take]; omega
                  have HRW := Lib.hid (show RwW w1 g k ⟨(c :: bl).toArray⟩ _ (sv (P.take k)) wr from ⟨hcell, hown, hb2⟩)
                  have hn5 : n ≤ 100000 := by omega
                  have hgr : g < wr.heap.size := by omega
                  have hcat := cat6 (blk n) (c :: bl)
                  have hbl : ¬ 9223372036854775807 < (blk n).length + (bl.length + 1) := by
                    have : bl.length + 1 ≤ s.size := hbs
                    rw [blk_len]; omega
                  have HI := Lib.hid hi
                  clear HP hown hb2 hi hl
                  go_wp2
                  go_region_held3 (fun w' => w'.cell? ⟨g, k, none⟩ = some (.string ⟨(c :: bl).toArray⟩) ∧ Below w1.heap.size w1 w')
                    (first | exact ⟨HRW.out.1, HRW.out.2.2⟩ | exact ⟨HRW.out.1, HRW.out.2.2.drew⟩ | exact ⟨hrw.1, hrw.2.2⟩ | exact ⟨hrw.1, hrw.2.2.drew⟩ | exact ⟨‹_›, ‹_›⟩ | exact ⟨‹_›, Below.drew ‹_›⟩ | exact rwc_alloc hgl ⟨hrw.1, hrw.2.2⟩ _ | exact rwc_grown hgl hrw hgrow | (have h9 := rwc_grown hgl hrw hgrow; exact ⟨h9.1, h9.2.drew⟩) | go_keep)
                    (first
                      | (go_at_call 18; refine (blanks_rw (w1 := w1) (g := g) (k := k) (b := ⟨(c :: bl).toArray⟩) (v := u9) (xs := sv (P.take k)) n hn5 hgl _ ?_).mono ?_; (first | exact HRW.out | exact HRW.out.drew | fail); rintro e w' ⟨rfl, hrw⟩)
                      | (refine step_append_lies _ (by rfl) _ _ _ (by rfl) w1.heap.size 9 i0 (.string ⟨#[]⟩) 1 16 Tryd.underlying31 HI.out hz0 hz1 hz2 rfl (by decide) _ _ _ (by rfl) (hrw.2.1.alloc _)
                          ⟨w'.heap.size, 0, none⟩ 1 1 [.string ⟨(blk n ++ (c :: bl)).toArray⟩] (by rfl) (by rfl) (World.news_of_block (cs := #[.string ⟨(blk n ++ (c :: bl)).toArray⟩]) (t := 9) (fr := (0, 0)) (heap_alloc_new _ _)) (by simp [Value.oneCell']) (by decide) (by omega) (by omega) (by have := hrw.2.2.size; simp; omega) (w'.heap.size + 1) (by simp) ?_; intro gg cap2 w4 own4 hgrow hat hlt4)
                      | (refine step_append_lies _ (by rfl) _ _ _ (by rfl) w1.heap.size 9 i0 (.string ⟨#[]⟩) 1 16 Tryd.underlying31 HI.out hz0 hz1 hz2 rfl (by decide) _ _ _ (by rfl) ((hrw.2.1.alloc _).drew)
                          ⟨w'.heap.size, 0, none⟩ 1 1 [.string ⟨(blk n ++ (c :: bl)).toArray⟩] (by rfl) (by rfl) (World.news_of_block (cs := #[.string ⟨(blk n ++ (c :: bl)).toArray⟩]) (t := 9) (fr := (0, 0)) (heap_alloc_new _ _)) (by simp [Value.oneCell']) (by decide) (by omega) (by omega) (by have := hrw.2.2.size; simp; omega) (w'.heap.size + 1) (by simp) ?_; intro gg cap2 w4 own4 hgrow hat hlt4)
                      | fail)
                  all_goals
                    have HO4 := Lib.hid (show w4.ownsRow w1.heap.size 9 1 (.slice (some ⟨gg, 0, none⟩) (k + 1) cap2) (k + 1) (sv (P.take (k + 1))) by rw [HP2.out, sv_app]; exact own4)
                    have HB4 := Lib.hid (rwc_grown hgl hrw hgrow).2
                    clear own4 hgrow hrw hcat hbl hat hcell
                    go_wp2
                    go_roundw
                    case rel => exact ⟨k + 1, by go_num, by omega, HO4.out, HB4.out⟩
                    case measure => simp [intOf]; omega
              · obtain rfl : k = M.length := by omega
                have hfin : w.heap.size ≤ w1.heap.size := hw1
                rw [List.take_of_length_le (by omega), ← hPl, ← HPW.out] at hown
                have HO := Lib.hid (own_mono hown hfin)
                have hB := hb.trans (hb2.mono hw1)
                clear hown hb hb2
                go_wp2
                go_ret2
                exact ⟨_, rfl, HO.out, hB⟩
end Go.Proofs.YtcmdpablbadloaaDoor
