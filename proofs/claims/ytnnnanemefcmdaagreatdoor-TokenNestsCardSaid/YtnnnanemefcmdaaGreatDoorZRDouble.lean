/- The walk of the document's Double. -/
import Derived.Test.YtnnnanemefcmdaaGreatDoorZL0a
import Derived.Test.YtnnnanemefcmdaaGreatDoorZRSingle
import Derived.Test.YtnnnanemefcmdaaGreatDoorZEsc
import Derived.Test.YtnnnanemefcmdaaGreatDoorZL0e
namespace Go.Proofs.YtnnnanemefcmdaaGreatDoor
open Go.RowKit

set_option maxRecDepth 100000 in
set_option maxHeartbeats 4000000 in
theorem refDouble_no (s : ByteArray) (at' : Int) (w : World) (hs : s.size ≤ 10000) (h : at' < 0 ∨ (s.size : Int) ≤ at' ∨ ∃ (i : Nat) (_ : i < s.size), at' = i ∧ bt s i ≠ 34) :
    Calls Tryz.prog 43 #[.string s, .int .i64 at'] w fun e w' => e = .returned (.agg #[.string ⟨#[]⟩, .int .i64 0, .int .i64 3, .int .i64 at']) ∧ Below w.heap.size w w' := by
  rcases h with h | h | ⟨i, hi, rfl, h⟩
  · go_enter Tryz.func43, Tryz.ntmps43
    go_wp2
    refine bodyPost_ret (v := .agg #[.string ⟨#[]⟩, .int .i64 0, .int .i64 3, .int .i64 at']) (by simp [results, Tryz.results43, go_sem]) rfl ⟨rfl, ?_⟩
    exact (Below.refl _ _).alloc (Nat.le_refl _) _
  · have h0 : (0 : Int) ≤ at' := by omega
    go_enter Tryz.func43, Tryz.ntmps43
    go_wp2
    refine bodyPost_ret (v := .agg #[.string ⟨#[]⟩, .int .i64 0, .int .i64 3, .int .i64 at']) (by simp [results, Tryz.results43, go_sem]) rfl ⟨rfl, ?_⟩
    exact (Below.refl _ _).alloc (Nat.le_refl _) _
  · have q : ((s[i].toNat : Int) != 34) = true := by
      have e := bt_get s i hi
      simp only [bne_iff_ne, ne_eq]; omega
    go_enter Tryz.func43, Tryz.ntmps43
    go_wp2
    refine bodyPost_ret (v := .agg #[.string ⟨#[]⟩, .int .i64 0, .int .i64 3, .int .i64 (i : Int)]) (by simp [results, Tryz.results43, go_sem]) rfl ⟨rfl, ?_⟩
    exact (Below.refl _ _).alloc (Nat.le_refl _) _

set_option maxRecDepth 100000 in
set_option maxHeartbeats 8000000 in
theorem refDouble_yes (s : ByteArray) (a : Nat) (w : World) (hs : s.size ≤ 10000) (ha : a < s.size) (h34 : bt s a = 34) :
    Calls Tryz.prog 43 #[.string s, .int .i64 a] w fun e w' => e = .returned (dblV s a) ∧ Below w.heap.size w w' := by
  obtain ⟨i0, hi, hz0, hz1, hz2⟩ := info_parts infoB
  have hmx : (100000 : Nat) ≤ maxLen := by decide
  have q0 : ((s[a].toNat : Int) != 34) = false := by
    have e := bt_get s a ha
    simp only [bne_eq_false_iff_eq]; omega
  have z1 : decide ((a : Int) < 0) = false := decide_eq_false (by omega)
  have z2 : decide (s.size ≤ a) = false := decide_eq_false (by omega)
  clear h34
  go_enter Tryz.func43, Tryz.ntmps43
  go_wp2
  go_loopw [5, 6] (fun v j wr => ∃ (i f : Nat) (o : List UInt8), j = .int .i64 i ∧ i ≤ s.size ∧ s.size ≤ i + f ∧ o.length ≤ 4 * i ∧ Hid ((rdD s f i).pre o = rdD s s.size (a + 1)) ∧ wr.ownsRow (w.heap.size + 1) 5 1 v o.length (bv o) ∧ Below w.heap.size w wr ∧ Hid (wr.heap[w.heap.size]? = some (.cells #[.string ⟨#[]⟩, .int .i64 0, .int .i64 0, .int .i64 0] 72)) ∧ w.heap.size < wr.heap.size) (fun _ j _ => s.size - (intOf j).toNat)
  case atStart => exact ⟨a + 1, s.size, [], by go_num, by omega, by omega, by simp, Lib.hid (DOut.pre_nil _), World.ownsRow_nil _ _ _ _, (Below.refl _ _).alloc (Nat.le_refl _) _, Lib.hid (heap_alloc_new w _), by simp⟩
  case round =>
    obtain ⟨i, f, o, rfl, hi', hf, hol, hp, hown, hb, hres, hwl⟩ := hrel
    have hz := hb.size
    by_cases hlt : i < s.size
    · obtain ⟨f, rfl⟩ : ∃ g, f = g + 1 := ⟨f - 1, by omega⟩
      have hbg := bt_get s i hlt
      by_cases h34 : bt s i = 34
      · have q1 : ((s[i].toNat : Int) == 34) = true := by simp only [beq_iff_eq]; omega
        have hi10 : i ≤ 10000 := by omega
        have hconv := own_text hown
        have HS := Lib.hid (show dblV s a = gotV o a ((i + 1 : Nat) : Int) by unfold dblV; rw [← hp.out, rdD_stop hlt h34]; simp [DOut.pre])
        clear hp h34 hown hbg
        by_cases h1024 : 1024 < o.length
        · have HG := Lib.hid (show gotV o a ((i + 1 : Nat) : Int) = .agg #[.string ⟨#[]⟩, .int .i64 0, .int .i64 5, .int .i64 a] by unfold gotV; rw [if_pos h1024])
          go_wp2_with fail
          refine (end_any o a ((i + 1 : Nat) : Int) wr (by omega)).mono ?_
          rintro x w1 ⟨rfl, hb1⟩
          rw [HG.out]
          have hr1 := (hb1.block w.heap.size hwl).trans hres.out
          have rc0 := cell_heap4 hr1 0 _ rfl
          have rc1 := cell_heap4 hr1 1 _ rfl
          have rc2 := cell_heap4 hr1 2 _ rfl
          have rc3 := cell_heap4 hr1 3 _ rfl
          have rf0 := free_heap4 hr1 0
          have rf1 := free_heap4 hr1 1
          have rf2 := free_heap4 hr1 2
          have rf3 := free_heap4 hr1 3
          have hB := hb.trans (hb1.mono hz)
          clear hr1 hb1
          go_wp2
          refine bodyPost_ret (v := .agg #[.string ⟨#[]⟩, .int .i64 0, .int .i64 5, .int .i64 a]) (by simp [results, Tryz.results43, go_sem, rc0, rc1, rc2, rc3]) rfl ⟨by rw [HS.out, HG.out], ?_⟩
          exact (((hB.setCell (p := ⟨w.heap.size, 0, none⟩) (Nat.le_refl _) _).setCell (p := ⟨w.heap.size, 1, none⟩) (Nat.le_refl _) _).setCell (p := ⟨w.heap.size, 2, none⟩) (Nat.le_refl _) _).setCell (p := ⟨w.heap.size, 3, none⟩) (Nat.le_refl _) _
        · have HG := Lib.hid (show gotV o a ((i + 1 : Nat) : Int) = .agg #[.string ⟨o.toArray⟩, .int .i64 ((i + 1 : Nat) : Int), .int .i64 0, .int .i64 0] by unfold gotV; rw [if_neg h1024])
          go_wp2_with fail
          refine (end_any o a ((i + 1 : Nat) : Int) wr (by omega)).mono ?_
          rintro x w1 ⟨rfl, hb1⟩
          rw [HG.out]
          have hr1 := (hb1.block w.heap.size hwl).trans hres.out
          have rc0 := cell_heap4 hr1 0 _ rfl
          have rc1 := cell_heap4 hr1 1 _ rfl
          have rc2 := cell_heap4 hr1 2 _ rfl
          have rc3 := cell_heap4 hr1 3 _ rfl
          have rf0 := free_heap4 hr1 0
          have rf1 := free_heap4 hr1 1
          have rf2 := free_heap4 hr1 2
          have rf3 := free_heap4 hr1 3
          have hB := hb.trans (hb1.mono hz)
          clear hr1 hb1
          go_wp2
          refine bodyPost_ret (v := .agg #[.string ⟨o.toArray⟩, .int .i64 ((i + 1 : Nat) : Int), .int .i64 0, .int .i64 0]) (by simp [results, Tryz.results43, go_sem, rc0, rc1, rc2, rc3]) rfl ⟨by rw [HS.out, HG.out], ?_⟩
          exact (((hB.setCell (p := ⟨w.heap.size, 0, none⟩) (Nat.le_refl _) _).setCell (p := ⟨w.heap.size, 1, none⟩) (Nat.le_refl _) _).setCell (p := ⟨w.heap.size, 2, none⟩) (Nat.le_refl _) _).setCell (p := ⟨w.heap.size, 3, none⟩) (Nat.le_refl _) _
      by_cases h92 : bt s i = 92
      · have q1 : ((s[i].toNat : Int) == 34) = false := by simp only [beq_eq_false_iff_ne, ne_eq]; omega
        have q2 : ((s[i].toNat : Int) != 92) = false := by simp only [bne_eq_false_iff_eq]; omega
        have hr := esc_range hlt
        have hb2 := rdD_bad (f := f) hlt h92
        have hb3 := rdD_esc (f := f) hlt h92
        obtain ⟨ec, en⟩ : ∃ ec, escN s i = ec := ⟨_, rfl⟩
        rw [en] at hr hb2 hb3
        obtain ⟨c, m⟩ := ec
        have HEN := Lib.hid en
        clear en h92 h34 hbg
        by_cases hm : m = 0
        · have HS := Lib.hid (show dblV s a = .agg #[.string ⟨#[]⟩, .int .i64 0, .int .i64 6, .int .i64 i] by unfold dblV; rw [← hp.out, hb2 hm]; rfl)
          have t1 : ((m : Int) == 0) = true := by simp [hm]
          have hr1 := hres.out
          have rc0 := cell_heap4 hr1 0 _ rfl
          have rc1 := cell_heap4 hr1 1 _ rfl
          have rc2 := cell_heap4 hr1 2 _ rfl
          have rc3 := cell_heap4 hr1 3 _ rfl
          have rf0 := free_heap4 hr1 0
          have rf1 := free_heap4 hr1 1
          have rf2 := free_heap4 hr1 2
          have rf3 := free_heap4 hr1 3
          clear hr1 hown hp hb2 hb3 hr hm
          go_wp2_with fail
          refine (escape_any s i _ hlt hs).mono ?_
          rintro x w1 ⟨rfl, rfl⟩
          rw [HEN.out]
          go_wp2
          refine bodyPost_ret (v := .agg #[.string ⟨#[]⟩, .int .i64 0, .int .i64 6, .int .i64 i]) (by simp [results, Tryz.results43, go_sem, rc0, rc1, rc2, rc3]) rfl ⟨by rw [HS.out], ?_⟩
          exact (((hb.setCell (p := ⟨w.heap.size, 0, none⟩) (Nat.le_refl _) _).setCell (p := ⟨w.heap.size, 1, none⟩) (Nat.le_refl _) _).setCell (p := ⟨w.heap.size, 2, none⟩) (Nat.le_refl _) _).setCell (p := ⟨w.heap.size, 3, none⟩) (Nat.le_refl _) _
        · have hr' := hr.resolve_left hm
          obtain ⟨m1, m2, c1, c2, m3⟩ := hr'
          have t1 : ((m : Int) == 0) = false := by simp only [beq_eq_false_iff_ne, ne_eq]; exact hm
          simp only at m1 m2 c1 c2 m3
          obtain ⟨c, rfl⟩ : ∃ cn : Nat, c = cn := ⟨c.toNat, by omega⟩
          obtain ⟨m, rfl⟩ : ∃ mn : Nat, m = mn := ⟨m.toNat, by omega⟩
          have HP := Lib.hid (show (rdD s f (i + m)).pre (o ++ encB c) = rdD s s.size (a + 1) by
            rw [← hp.out, hb3 hm, DOut.pre_pre]; simp)
          have hm3 : i + m ≤ s.size := by simpa using m3
          have he := encB_len c
          clear hp hb2 hb3 hr hm m3
          go_wp2_with fail
          refine (escape_any s i _ hlt hs).mono ?_
          rintro x w1 ⟨rfl, rfl⟩
          rw [HEN.out]
          go_wp2_with fail
          refine (bytes_any c _ (by omega)).mono ?_
          rintro x w1 ⟨v1, rfl, ownb, hbb⟩
          rcases ownb.2 with ⟨_, h0⟩ | ⟨g, cap, cur, rfl, hg, hgg, _⟩
          · omega
          have hcb := fun j u (hj : (bv (encB c))[j]? = some u) => ownb.cells (g := g) rfl j u hj
          have own1 := own_below hown hbb
          have hb1 := hb.trans (hbb.mono hz)
          have hz1' := hb1.size
          have hwl1 : w.heap.size < w1.heap.size := by have := hbb.size; omega
          have hz3 := hbb.size
          have hres1 := Lib.hid ((hbb.block w.heap.size hwl).trans hres.out)
          have HCB := Lib.hid hcb
          clear hown ownb hbb hb hres hcb hgg
          go_wp2_with (at_builtin; refine wpList_append_own _ rfl _ _ 52 rfl (w.heap.size + 1) 5 i0 (.int .u8 0) 1 1 Tryz.underlying52 hi hz0 hz1 hz2 rfl (by decide) _ _ _ rfl own1 ⟨g, 0, none⟩ (encB c).length cap (bv (encB c)) rfl (by rw [bv_len]; simp) HCB.out (fun y hy => by simp only [bv, List.mem_map] at hy; obtain ⟨_, _, rfl⟩ := hy; rfl) (by omega) (by omega) (by omega) ?_)
          intro v2 w2 own2 g2 _
          have hb2 := below_of_grown hb1 g2 hz1' (own_mono8 own1)
          have hres2 := Lib.hid ((g2.block w.heap.size hwl1 (fun e => by have := (own1.lt _ e.symm).1; omega)).trans hres1.out)
          have hwl2 : w.heap.size < w2.heap.size := by have := g2.size; omega
          rw [← bv_app] at own2
          have own2' : w2.ownsRow (w.heap.size + 1) 5 1 v2 (o ++ encB c).length (bv (o ++ encB c)) := by rw [List.length_append]; exact own2
          clear own1 g2 own2 hb1 hres1 HCB
          go_wp2
          go_roundw
          case rel => exact ⟨i + m, f, o ++ encB c, by go_num, hm3, by omega, by rw [List.length_append]; omega, HP, own2', hb2, hres2, hwl2⟩
          case measure => simp [intOf]; omega
      · have q1 : ((s[i].toNat : Int) == 34) = false := by simp only [beq_eq_false_iff_ne, ne_eq]; omega
        have q2 : ((s[i].toNat : Int) != 92) = true := by simp only [bne_iff_ne, ne_eq]; omega
        have HP := Lib.hid (show (rdD s f (i + 1)).pre (o ++ [s[i]]) = rdD s s.size (a + 1) by rw [← hp.out, rdD_one hlt h34 h92, DOut.pre_pre])
        clear hp h34 h92 hbg
        go_wp2_with (at_builtin; refine wpList_append_own _ rfl _ _ 52 rfl (w.heap.size + 1) 5 i0 (.int .u8 0) 1 1 Tryz.underlying52 hi hz0 hz1 hz2 rfl (by decide) _ _ _ rfl (hown.alloc _) ⟨wr.heap.size, 0, none⟩ 1 1 (bv [s[i]]) rfl rfl (fun j u hj => cells_new wr _ _ j u hj) (fun y hy => by simp [bv] at hy; subst hy; rfl) (by omega) (by omega) (by simp; omega) ?_)
        intro v1 w1 own1 g1 _
        have hb1 := below_of_grown (hb.alloc hz _) g1 (by simp; omega) (own_mono8 (hown.alloc _))
        have hres1 := Lib.hid (res_keep hown _ g1 hwl hres.out)
        have hwl1 : w.heap.size < w1.heap.size := by have := g1.size; simp at this; omega
        rw [← bv_app] at own1
        have own1' : w1.ownsRow (w.heap.size + 1) 5 1 v1 (o ++ [s[i]]).length (bv (o ++ [s[i]])) := by simpa using own1
        clear hown g1 own1 hb hres
        go_wp2
        go_roundw
        case rel => exact ⟨i + 1, f, o ++ [s[i]], by go_num, by omega, by omega, by simp; omega, HP, own1', hb1, hres1, hwl1⟩
        case measure => simp [intOf]; omega
    · have HS := Lib.hid (show dblV s a = .agg #[.string ⟨#[]⟩, .int .i64 0, .int .i64 3, .int .i64 s.size] by
        unfold dblV; rw [← hp.out, rdD_end s f i (by omega)]; rfl)
      have hr1 := hres.out
      have rc0 := cell_heap4 hr1 0 _ rfl
      have rc1 := cell_heap4 hr1 1 _ rfl
      have rc2 := cell_heap4 hr1 2 _ rfl
      have rc3 := cell_heap4 hr1 3 _ rfl
      have rf0 := free_heap4 hr1 0
      have rf1 := free_heap4 hr1 1
      have rf2 := free_heap4 hr1 2
      have rf3 := free_heap4 hr1 3
      clear hr1 hown hp
      go_wp2
      refine bodyPost_ret (v := .agg #[.string ⟨#[]⟩, .int .i64 0, .int .i64 3, .int .i64 s.size]) (by simp [results, Tryz.results43, go_sem, rc0, rc1, rc2, rc3]) rfl ⟨by rw [HS.out], ?_⟩
      exact (((hb.setCell (p := ⟨w.heap.size, 0, none⟩) (Nat.le_refl _) _).setCell (p := ⟨w.heap.size, 1, none⟩) (Nat.le_refl _) _).setCell (p := ⟨w.heap.size, 2, none⟩) (Nat.le_refl _) _).setCell (p := ⟨w.heap.size, 3, none⟩) (Nat.le_refl _) _
end Go.Proofs.YtnnnanemefcmdaaGreatDoor
