/- The walks of the document's end and Single. -/
import Derived.Test.YtnnnanemefcmdaaGreatDoorZL0a
namespace Go.Proofs.YtnnnanemefcmdaaGreatDoor
open Go.RowKit

set_option maxRecDepth 100000 in
set_option maxHeartbeats 1000000 in
theorem end_long (t : ByteArray) (at' next : Int) (w : World) (h : 1024 < t.size) (hs : t.size ≤ 100000) :
    Calls Tryz.prog 76 #[.string t, .int .i64 at', .int .i64 next] w fun e w' => e = .returned (.agg #[.string ⟨#[]⟩, .int .i64 0, .int .i64 5, .int .i64 at']) ∧ Below w.heap.size w w' := by
  go_enter Tryz.func76, Tryz.ntmps76
  go_wp2
  refine bodyPost_ret (v := .agg #[.string ⟨#[]⟩, .int .i64 0, .int .i64 5, .int .i64 at']) (by simp [results, Tryz.results76, go_sem]) rfl ⟨rfl, ?_⟩
  exact (Below.refl _ _).alloc (Nat.le_refl _) _
set_option maxRecDepth 100000 in
set_option maxHeartbeats 1000000 in
theorem end_short (t : ByteArray) (at' next : Int) (w : World) (h : ¬ 1024 < t.size) :
    Calls Tryz.prog 76 #[.string t, .int .i64 at', .int .i64 next] w fun e w' => e = .returned (.agg #[.string t, .int .i64 next, .int .i64 0, .int .i64 0]) ∧ Below w.heap.size w w' := by
  go_enter Tryz.func76, Tryz.ntmps76
  go_wp2
  refine bodyPost_ret (v := .agg #[.string t, .int .i64 next, .int .i64 0, .int .i64 0]) (by simp [results, Tryz.results76, go_sem]) rfl ⟨rfl, ?_⟩
  exact (Below.refl _ _).alloc (Nat.le_refl _) _

theorem end_any (l : List UInt8) (at' next : Int) (w : World) (hs : l.length ≤ 100000) :
    Calls Tryz.prog 76 #[.string ⟨l.toArray⟩, .int .i64 at', .int .i64 next] w fun e w' => e = .returned (gotV l at' next) ∧ Below w.heap.size w w' := by
  have hz : (⟨l.toArray⟩ : ByteArray).size = l.length := by simp [ByteArray.size]
  by_cases h : 1024 < l.length
  · rw [show gotV l at' next = .agg #[.string ⟨#[]⟩, .int .i64 0, .int .i64 5, .int .i64 at'] by unfold gotV; rw [if_pos h]]
    exact end_long _ _ _ w (by omega) (by omega)
  · rw [show gotV l at' next = .agg #[.string ⟨l.toArray⟩, .int .i64 next, .int .i64 0, .int .i64 0] by unfold gotV; rw [if_neg h]]
    exact end_short _ _ _ w (by omega)

set_option maxRecDepth 100000 in
set_option maxHeartbeats 4000000 in
theorem refSingle_no (s : ByteArray) (at' : Int) (w : World) (hs : s.size ≤ 10000) (h : at' < 0 ∨ (s.size : Int) ≤ at' ∨ ∃ (i : Nat) (_ : i < s.size), at' = i ∧ bt s i ≠ 39) :
    Calls Tryz.prog 42 #[.string s, .int .i64 at'] w fun e w' => e = .returned (.agg #[.string ⟨#[]⟩, .int .i64 0, .int .i64 3, .int .i64 at']) ∧ Below w.heap.size w w' := by
  rcases h with h | h | ⟨i, hi, rfl, h⟩
  · go_enter Tryz.func42, Tryz.ntmps42
    go_wp2
    refine bodyPost_ret (v := .agg #[.string ⟨#[]⟩, .int .i64 0, .int .i64 3, .int .i64 at']) (by simp [results, Tryz.results42, go_sem]) rfl ⟨rfl, ?_⟩
    exact (Below.refl _ _).alloc (Nat.le_refl _) _
  · have h0 : (0 : Int) ≤ at' := by omega
    go_enter Tryz.func42, Tryz.ntmps42
    go_wp2
    refine bodyPost_ret (v := .agg #[.string ⟨#[]⟩, .int .i64 0, .int .i64 3, .int .i64 at']) (by simp [results, Tryz.results42, go_sem]) rfl ⟨rfl, ?_⟩
    exact (Below.refl _ _).alloc (Nat.le_refl _) _
  · have q : ((s[i].toNat : Int) != 39) = true := by
      have e := bt_get s i hi
      simp only [bne_iff_ne, ne_eq]; omega
    go_enter Tryz.func42, Tryz.ntmps42
    go_wp2
    refine bodyPost_ret (v := .agg #[.string ⟨#[]⟩, .int .i64 0, .int .i64 3, .int .i64 (i : Int)]) (by simp [results, Tryz.results42, go_sem]) rfl ⟨rfl, ?_⟩
    exact (Below.refl _ _).alloc (Nat.le_refl _) _

set_option maxRecDepth 100000 in
set_option maxHeartbeats 8000000 in
theorem refSingle_yes (s : ByteArray) (a : Nat) (w : World) (hs : s.size ≤ 10000) (ha : a < s.size) (h39 : bt s a = 39) :
    Calls Tryz.prog 42 #[.string s, .int .i64 a] w fun e w' => e = .returned (sglV s a) ∧ Below w.heap.size w w' := by
  obtain ⟨i0, hi, hz0, hz1, hz2⟩ := info_parts infoB
  have hmx : (30000 : Nat) ≤ maxLen := by decide
  have q0 : ((s[a].toNat : Int) != 39) = false := by
    have e := bt_get s a ha
    simp only [bne_eq_false_iff_eq]; omega
  have z1 : decide ((a : Int) < 0) = false := decide_eq_false (by omega)
  have z2 : decide (s.size ≤ a) = false := decide_eq_false (by omega)
  clear h39
  go_enter Tryz.func42, Tryz.ntmps42
  go_wp2
  go_loopw [5, 6] (fun v j wr => ∃ (i f : Nat) (o : List UInt8), j = .int .i64 i ∧ i ≤ s.size ∧ s.size ≤ i + f ∧ o.length ≤ i ∧ Hid (pre o (rdS s f i) = rdS s s.size (a + 1)) ∧ wr.ownsRow (w.heap.size + 1) 5 1 v o.length (bv o) ∧ Below w.heap.size w wr ∧ Hid (wr.heap[w.heap.size]? = some (.cells #[.string ⟨#[]⟩, .int .i64 0, .int .i64 0, .int .i64 0] 72)) ∧ w.heap.size < wr.heap.size) (fun _ j _ => s.size - (intOf j).toNat)
  case atStart => exact ⟨a + 1, s.size, [], by go_num, by omega, by omega, by simp, Lib.hid (by cases rdS s s.size (a + 1) <;> simp [pre]), World.ownsRow_nil _ _ _ _, (Below.refl _ _).alloc (Nat.le_refl _) _, Lib.hid (heap_alloc_new w _), by simp⟩
  case round =>
    obtain ⟨i, f, o, rfl, hi', hf, hol, hp, hown, hb, hres, hwl⟩ := hrel
    have hz := hb.size
    by_cases hlt : i < s.size
    · obtain ⟨f, rfl⟩ : ∃ g, f = g + 1 := ⟨f - 1, by omega⟩
      by_cases h39 : bt s i = 39
      · have q1 : ((s[i].toNat : Int) == 39) = true := by
          have e := bt_get s i hlt
          simp only [beq_iff_eq]; omega
        by_cases hn : i + 1 < s.size ∧ bt s (i + 1) = 39
        · obtain ⟨hn1, hn2⟩ := hn
          have q2 : ((i : Int) == (s.size : Int) - 1) = false := by simp; omega
          have hbyte : s[i + 1].toNat = 39 := by rw [bt_get s (i + 1) hn1]; exact hn2
          have q3 : ((s[i + 1].toNat : Int) != 39) = false := by simp only [bne_eq_false_iff_eq]; omega
          have HP := Lib.hid (show pre (o ++ [s[i + 1]]) (rdS s f (i + 2)) = rdS s s.size (a + 1) by
            rw [← hp.out, rdS_two hlt h39 hn1 hn2, pre_pre, show s[i + 1] = 39 from UInt8.toNat_inj.1 hbyte])
          clear hp h39 hn2 hbyte
          go_wp2_with (at_builtin; refine wpList_append_own _ rfl _ _ 52 rfl (w.heap.size + 1) 5 i0 (.int .u8 0) 1 1 Tryz.underlying52 hi hz0 hz1 hz2 rfl (by decide) _ _ _ rfl (hown.alloc _) ⟨wr.heap.size, 0, none⟩ 1 1 (bv [s[i + 1]]) rfl rfl (fun j u hj => cells_new wr _ _ j u hj) (fun y hy => by simp [bv] at hy; subst hy; rfl) (by omega) (by omega) (by simp; omega) ?_)
          intro v1 w1 own1 g1 _
          have hb1 := below_of_grown (hb.alloc hz _) g1 (by simp; omega) (own_mono8 (hown.alloc _))
          have hres1 := Lib.hid (res_keep hown _ g1 hwl hres.out)
          have hwl1 : w.heap.size < w1.heap.size := by have := g1.size; simp at this; omega
          rw [← bv_app] at own1
          have own1' : w1.ownsRow (w.heap.size + 1) 5 1 v1 (o ++ [s[i + 1]]).length (bv (o ++ [s[i + 1]])) := by simpa using own1
          clear hown g1 own1 hb hres
          go_wp2
          go_roundw
          case rel => exact ⟨i + 2, f, o ++ [s[i + 1]], by go_num, by omega, by omega, by simp; omega, HP, own1', hb1, hres1, hwl1⟩
          case measure => simp [intOf]; omega
        · by_cases hl : i + 1 = s.size
          · have q2 : ((i : Int) == (s.size : Int) - 1) = true := by simp; omega
            have hi10 : i ≤ 10000 := by omega
            clear hl
            have hconv := own_text hown
            have HS := Lib.hid (show sglV s a = gotV o a ((i + 1 : Nat) : Int) by
              unfold sglV; rw [← hp.out, rdS_stop hlt h39 hn]; simp [pre])
            clear hp h39 hn hown
            by_cases h1024 : 1024 < o.length
            · have HG := Lib.hid (show gotV o a ((i + 1 : Nat) : Int) = .agg #[.string ⟨#[]⟩, .int .i64 0, .int .i64 5, .int .i64 a] by unfold gotV; rw [if_pos h1024])
              go_wp2_with fail
              refine (end_any o a ((i + 1 : Nat) : Int) wr (by omega)).mono ?_
              rintro x w1 ⟨rfl, hb1⟩
              rw [HG.out]
              have hr1 := (hb1.block w.heap.size hwl).trans hres.out
              have rc0 := cell_heap4 hr1 0 _ rfl
              have rc1 := cell_heap4 hr1 1 _ rfl
              have rc2 := cell_heap4 hr1 2 _ rfl
              have rc3 := cell_heap4 hr1 3 _ rfl
              have rf0 := free_heap4 hr1 0
              have rf1 := free_heap4 hr1 1
              have rf2 := free_heap4 hr1 2
              have rf3 := free_heap4 hr1 3
              have hB := hb.trans (hb1.mono hz)
              clear hr1 hb1
              go_wp2
              refine bodyPost_ret (v := .agg #[.string ⟨#[]⟩, .int .i64 0, .int .i64 5, .int .i64 a]) (by simp [results, Tryz.results42, go_sem, rc0, rc1, rc2, rc3]) rfl ⟨by rw [HS.out, HG.out], ?_⟩
              exact (((hB.setCell (p := ⟨w.heap.size, 0, none⟩) (Nat.le_refl _) _).setCell (p := ⟨w.heap.size, 1, none⟩) (Nat.le_refl _) _).setCell (p := ⟨w.heap.size, 2, none⟩) (Nat.le_refl _) _).setCell (p := ⟨w.heap.size, 3, none⟩) (Nat.le_refl _) _
            · have HG := Lib.hid (show gotV o a ((i + 1 : Nat) : Int) = .agg #[.string ⟨o.toArray⟩, .int .i64 ((i + 1 : Nat) : Int), .int .i64 0, .int .i64 0] by unfold gotV; rw [if_neg h1024])
              go_wp2_with fail
              refine (end_any o a ((i + 1 : Nat) : Int) wr (by omega)).mono ?_
              rintro x w1 ⟨rfl, hb1⟩
              rw [HG.out]
              have hr1 := (hb1.block w.heap.size hwl).trans hres.out
              have rc0 := cell_heap4 hr1 0 _ rfl
              have rc1 := cell_heap4 hr1 1 _ rfl
              have rc2 := cell_heap4 hr1 2 _ rfl
              have rc3 := cell_heap4 hr1 3 _ rfl
              have rf0 := free_heap4 hr1 0
              have rf1 := free_heap4 hr1 1
              have rf2 := free_heap4 hr1 2
              have rf3 := free_heap4 hr1 3
              have hB := hb.trans (hb1.mono hz)
              clear hr1 hb1
              go_wp2
              refine bodyPost_ret (v := .agg #[.string ⟨o.toArray⟩, .int .i64 ((i + 1 : Nat) : Int), .int .i64 0, .int .i64 0]) (by simp [results, Tryz.results42, go_sem, rc0, rc1, rc2, rc3]) rfl ⟨by rw [HS.out, HG.out], ?_⟩
              exact (((hB.setCell (p := ⟨w.heap.size, 0, none⟩) (Nat.le_refl _) _).setCell (p := ⟨w.heap.size, 1, none⟩) (Nat.le_refl _) _).setCell (p := ⟨w.heap.size, 2, none⟩) (Nat.le_refl _) _).setCell (p := ⟨w.heap.size, 3, none⟩) (Nat.le_refl _) _
          · have hn1 : i + 1 < s.size := by omega
            have q2 : ((i : Int) == (s.size : Int) - 1) = false := by simp; omega
            have q3 : ((s[i + 1].toNat : Int) != 39) = true := by
              have e := bt_get s (i + 1) hn1
              have : bt s (i + 1) ≠ 39 := fun h => hn ⟨hn1, h⟩
              simp only [bne_iff_ne, ne_eq]; omega
            have hconv := own_text hown
            have HS := Lib.hid (show sglV s a = gotV o a ((i + 1 : Nat) : Int) by
              unfold sglV; rw [← hp.out, rdS_stop hlt h39 hn]; simp [pre])
            clear hp h39 hn hown
            by_cases h1024 : 1024 < o.length
            · have HG := Lib.hid (show gotV o a ((i + 1 : Nat) : Int) = .agg #[.string ⟨#[]⟩, .int .i64 0, .int .i64 5, .int .i64 a] by unfold gotV; rw [if_pos h1024])
              go_wp2_with fail
              refine (end_any o a ((i + 1 : Nat) : Int) wr (by omega)).mono ?_
              rintro x w1 ⟨rfl, hb1⟩
              rw [HG.out]
              have hr1 := (hb1.block w.heap.size hwl).trans hres.out
              have rc0 := cell_heap4 hr1 0 _ rfl
              have rc1 := cell_heap4 hr1 1 _ rfl
              have rc2 := cell_heap4 hr1 2 _ rfl
              have rc3 := cell_heap4 hr1 3 _ rfl
              have rf0 := free_heap4 hr1 0
              have rf1 := free_heap4 hr1 1
              have rf2 := free_heap4 hr1 2
              have rf3 := free_heap4 hr1 3
              have hB := hb.trans (hb1.mono hz)
              clear hr1 hb1
              go_wp2
              refine bodyPost_ret (v := .agg #[.string ⟨#[]⟩, .int .i64 0, .int .i64 5, .int .i64 a]) (by simp [results, Tryz.results42, go_sem, rc0, rc1, rc2, rc3]) rfl ⟨by rw [HS.out, HG.out], ?_⟩
              exact (((hB.setCell (p := ⟨w.heap.size, 0, none⟩) (Nat.le_refl _) _).setCell (p := ⟨w.heap.size, 1, none⟩) (Nat.le_refl _) _).setCell (p := ⟨w.heap.size, 2, none⟩) (Nat.le_refl _) _).setCell (p := ⟨w.heap.size, 3, none⟩) (Nat.le_refl _) _
            · have HG := Lib.hid (show gotV o a ((i + 1 : Nat) : Int) = .agg #[.string ⟨o.toArray⟩, .int .i64 ((i + 1 : Nat) : Int), .int .i64 0, .int .i64 0] by unfold gotV; rw [if_neg h1024])
              go_wp2_with fail
              refine (end_any o a ((i + 1 : Nat) : Int) wr (by omega)).mono ?_
              rintro x w1 ⟨rfl, hb1⟩
              rw [HG.out]
              have hr1 := (hb1.block w.heap.size hwl).trans hres.out
              have rc0 := cell_heap4 hr1 0 _ rfl
              have rc1 := cell_heap4 hr1 1 _ rfl
              have rc2 := cell_heap4 hr1 2 _ rfl
              have rc3 := cell_heap4 hr1 3 _ rfl
              have rf0 := free_heap4 hr1 0
              have rf1 := free_heap4 hr1 1
              have rf2 := free_heap4 hr1 2
              have rf3 := free_heap4 hr1 3
              have hB := hb.trans (hb1.mono hz)
              clear hr1 hb1
              go_wp2
              refine bodyPost_ret (v := .agg #[.string ⟨o.toArray⟩, .int .i64 ((i + 1 : Nat) : Int), .int .i64 0, .int .i64 0]) (by simp [results, Tryz.results42, go_sem, rc0, rc1, rc2, rc3]) rfl ⟨by rw [HS.out, HG.out], ?_⟩
              exact (((hB.setCell (p := ⟨w.heap.size, 0, none⟩) (Nat.le_refl _) _).setCell (p := ⟨w.heap.size, 1, none⟩) (Nat.le_refl _) _).setCell (p := ⟨w.heap.size, 2, none⟩) (Nat.le_refl _) _).setCell (p := ⟨w.heap.size, 3, none⟩) (Nat.le_refl _) _
      · have q1 : ((s[i].toNat : Int) == 39) = false := by
          have e := bt_get s i hlt
          simp only [beq_eq_false_iff_ne, ne_eq]; omega
        have HP := Lib.hid (show pre (o ++ [s[i]]) (rdS s f (i + 1)) = rdS s s.size (a + 1) by
          rw [← hp.out, rdS_one hlt h39, pre_pre])
        clear hp h39
        go_wp2_with (at_builtin; refine wpList_append_own _ rfl _ _ 52 rfl (w.heap.size + 1) 5 i0 (.int .u8 0) 1 1 Tryz.underlying52 hi hz0 hz1 hz2 rfl (by decide) _ _ _ rfl (hown.alloc _) ⟨wr.heap.size, 0, none⟩ 1 1 (bv [s[i]]) rfl rfl (fun j u hj => cells_new wr _ _ j u hj) (fun y hy => by simp [bv] at hy; subst hy; rfl) (by omega) (by omega) (by simp; omega) ?_)
        intro v1 w1 own1 g1 _
        have hb1 := below_of_grown (hb.alloc hz _) g1 (by simp; omega) (own_mono8 (hown.alloc _))
        have hres1 := Lib.hid (res_keep hown _ g1 hwl hres.out)
        have hwl1 : w.heap.size < w1.heap.size := by have := g1.size; simp at this; omega
        rw [← bv_app] at own1
        have own1' : w1.ownsRow (w.heap.size + 1) 5 1 v1 (o ++ [s[i]]).length (bv (o ++ [s[i]])) := by simpa using own1
        clear hown g1 own1 hb hres
        go_wp2
        go_roundw
        case rel => exact ⟨i + 1, f, o ++ [s[i]], by go_num, by omega, by omega, by simp; omega, HP, own1', hb1, hres1, hwl1⟩
        case measure => simp [intOf]; omega
    · have HS := Lib.hid (show sglV s a = .agg #[.string ⟨#[]⟩, .int .i64 0, .int .i64 3, .int .i64 s.size] by
        unfold sglV; rw [← hp.out, rdS_end s f i (by omega)]; simp [pre])
      have hr1 := hres.out
      have rc0 := cell_heap4 hr1 0 _ rfl
      have rc1 := cell_heap4 hr1 1 _ rfl
      have rc2 := cell_heap4 hr1 2 _ rfl
      have rc3 := cell_heap4 hr1 3 _ rfl
      have rf0 := free_heap4 hr1 0
      have rf1 := free_heap4 hr1 1
      have rf2 := free_heap4 hr1 2
      have rf3 := free_heap4 hr1 3
      clear hr1 hown hp
      go_wp2
      refine bodyPost_ret (v := .agg #[.string ⟨#[]⟩, .int .i64 0, .int .i64 3, .int .i64 s.size]) (by simp [results, Tryz.results42, go_sem, rc0, rc1, rc2, rc3]) rfl ⟨by rw [HS.out], ?_⟩
      exact (((hb.setCell (p := ⟨w.heap.size, 0, none⟩) (Nat.le_refl _) _).setCell (p := ⟨w.heap.size, 1, none⟩) (Nat.le_refl _) _).setCell (p := ⟨w.heap.size, 2, none⟩) (Nat.le_refl _) _).setCell (p := ⟨w.heap.size, 3, none⟩) (Nat.le_refl _) _
end Go.Proofs.YtnnnanemefcmdaaGreatDoor
