/- The walk of the document's read (layer 7): quoted. -/
import Derived.Test.YtnnnanemefcmdaaGreatDoorZRDouble
import Derived.Test.YtnnnanemefcmdaaGreatDoorZL1b
namespace Go.Proofs.YtnnnanemefcmdaaGreatDoor
open Go.RowKit

set_option maxRecDepth 100000 in
set_option maxHeartbeats 1000000 in
theorem refRead_sq (s : ByteArray) (i : Nat) (op : List UInt8) (last : Nat) (w : World) (hs : s.size ≤ 3000) (h : i < s.size) (hc : bt s i = 39) :
    Calls Tryz.prog 17 #[.string s, .int .i64 i, .string ⟨op.toArray⟩, .int .i64 last] w fun e w' => e = .returned (OnV (rdO s i op last)) ∧ Below w.heap.size w w' := by
  have hf : flowB (bt s i) = false := by rw [hc]; decide
  have hF : ∀ w, Calls Tryz.prog 37 #[.int .u8 (s[i].toNat : Int)] w fun e w' => e = .returned (.bool false) ∧ w = w' := fun w => by
    have h0 := refFlow_any (s[i].toNat) w (UInt8.toNat_lt _)
    rwa [show flowB (s[i].toNat) = false by rw [bt_get s i h]; exact hf] at h0
  have q38 : ((s[i].toNat : Int) == 38) = false := (ne_true (c := 38) h (by omega)).2
  have q42 : ((s[i].toNat : Int) == 42) = false := (ne_true (c := 42) h (by omega)).2
  have q33 : ((s[i].toNat : Int) == 33) = false := (ne_true (c := 33) h (by omega)).2
  have q124 : ((s[i].toNat : Int) == 124) = false := (ne_true (c := 124) h (by omega)).2
  have q39 : ((s[i].toNat : Int) == 39) = true := (eq_true (c := 39) h hc).2
  obtain ⟨⟨t, n, c, p⟩, hq⟩ : ∃ x, sglQ s i = x := ⟨_, rfl⟩
  have hC := fun w => refSingle_yes s i w (by omega) h hc
  rw [sglV_Q, hq] at hC
  simp only [qV] at hC
  have HX := Lib.hid (show (Ending.returned (.agg #[.int .i64 12, .int .i64 i, .string ⟨t.toArray⟩, .int .i64 (n : Nat), .string ⟨op.toArray⟩, .int .i64 (c : Nat), .int .i64 (p : Nat)]) : Ending) = .returned (OnV (rdO s i op last)) by
    unfold rdO; rw [if_pos hc, hq]; rfl)
  clear hf hc hq
  go_enter Tryz.func17, Tryz.ntmps17
  go_wp2_with fail
  refine (hF _).mono ?_
  rintro e w' ⟨rfl, rfl⟩
  go_wp2_with fail
  refine (hC _).mono ?_
  rintro e w1 ⟨rfl, hb⟩
  have hb1 := ((Below.refl w.heap.size w).alloc (Nat.le_refl _) (.cells #[.int .i64 0, .int .i64 0, .string ⟨#[]⟩, .int .i64 0, .string ⟨#[]⟩, .int .i64 0, .int .i64 0] 43)).trans (hb.mono (by simp))
  have hx1 := (hb.block w.heap.size (by simp)).trans (heap_alloc_new w (.cells #[.int .i64 0, .int .i64 0, .string ⟨#[]⟩, .int .i64 0, .string ⟨#[]⟩, .int .i64 0, .int .i64 0] 43))
  have hl1 : w.heap.size < w1.heap.size := (Array.getElem?_eq_some_iff.1 hx1).1
  have rc0 := cell_hp hx1 0 _ rfl
  have rf0 := free_hp hx1 0
  have rc1 := cell_hp hx1 1 _ rfl
  have rf1 := free_hp hx1 1
  have rc2 := cell_hp hx1 2 _ rfl
  have rf2 := free_hp hx1 2
  have rc3 := cell_hp hx1 3 _ rfl
  have rf3 := free_hp hx1 3
  have rc4 := cell_hp hx1 4 _ rfl
  have rf4 := free_hp hx1 4
  have rc5 := cell_hp hx1 5 _ rfl
  have rf5 := free_hp hx1 5
  have rc6 := cell_hp hx1 6 _ rfl
  have rf6 := free_hp hx1 6
  clear hb hC hF
  go_wp2
  have y0 := heap_setCell_same _ w.heap.size 0 _ _ (.int .i64 12) hx1
  have y1 := heap_setCell_same _ w.heap.size 1 _ _ (.int .i64 i) y0
  have y2 := heap_setCell_same _ w.heap.size 2 _ _ (.string ⟨t.toArray⟩) y1
  have y3 := heap_setCell_same _ w.heap.size 3 _ _ (.int .i64 (n : Nat)) y2
  have y4 := heap_setCell_same _ w.heap.size 4 _ _ (.string ⟨op.toArray⟩) y3
  have y5 := heap_setCell_same _ w.heap.size 5 _ _ (.int .i64 (c : Nat)) y4
  have y6 := heap_setCell_same _ w.heap.size 6 _ _ (.int .i64 (p : Nat)) y5
  have hB8 : Below w.heap.size w (((((((w1.setCell ⟨w.heap.size, 0, none⟩ (.int .i64 12)).setCell ⟨w.heap.size, 1, none⟩ (.int .i64 i)).setCell ⟨w.heap.size, 2, none⟩ (.string ⟨t.toArray⟩)).setCell ⟨w.heap.size, 3, none⟩ (.int .i64 (n : Nat))).setCell ⟨w.heap.size, 4, none⟩ (.string ⟨op.toArray⟩)).setCell ⟨w.heap.size, 5, none⟩ (.int .i64 (c : Nat))).setCell ⟨w.heap.size, 6, none⟩ (.int .i64 (p : Nat))) := (((((((hb1.setCell (p := ⟨w.heap.size, 0, none⟩) (Nat.le_refl _) _).setCell (p := ⟨w.heap.size, 1, none⟩) (Nat.le_refl _) _).setCell (p := ⟨w.heap.size, 2, none⟩) (Nat.le_refl _) _).setCell (p := ⟨w.heap.size, 3, none⟩) (Nat.le_refl _) _).setCell (p := ⟨w.heap.size, 4, none⟩) (Nat.le_refl _) _).setCell (p := ⟨w.heap.size, 5, none⟩) (Nat.le_refl _) _).setCell (p := ⟨w.heap.size, 6, none⟩) (Nat.le_refl _) _)
  obtain ⟨W8, hW8⟩ : ∃ W8, (((((((w1.setCell ⟨w.heap.size, 0, none⟩ (.int .i64 12)).setCell ⟨w.heap.size, 1, none⟩ (.int .i64 i)).setCell ⟨w.heap.size, 2, none⟩ (.string ⟨t.toArray⟩)).setCell ⟨w.heap.size, 3, none⟩ (.int .i64 (n : Nat))).setCell ⟨w.heap.size, 4, none⟩ (.string ⟨op.toArray⟩)).setCell ⟨w.heap.size, 5, none⟩ (.int .i64 (c : Nat))).setCell ⟨w.heap.size, 6, none⟩ (.int .i64 (p : Nat))) = W8 := ⟨_, rfl⟩
  rw [hW8] at y6 hB8 ⊢
  have y7 : W8.heap[w.heap.size]? = some (.cells #[.int .i64 12, .int .i64 i, .string ⟨t.toArray⟩, .int .i64 (n : Nat), .string ⟨op.toArray⟩, .int .i64 (c : Nat), .int .i64 (p : Nat)] 43) := y6
  have y8 := (Lib.alloc_old W8 (.cells #[.string ⟨t.toArray⟩, .int .i64 (n : Nat), .int .i64 (c : Nat), .int .i64 (p : Nat)] 72) w.heap.size (Array.getElem?_eq_some_iff.1 y7).1).trans y7
  have rd0 := cell_hp y8 0 _ rfl
  have rd1 := cell_hp y8 1 _ rfl
  have rd2 := cell_hp y8 2 _ rfl
  have rd3 := cell_hp y8 3 _ rfl
  have rd4 := cell_hp y8 4 _ rfl
  have rd5 := cell_hp y8 5 _ rfl
  have rd6 := cell_hp y8 6 _ rfl
  clear y0 y1 y2 y3 y4 y5 y6 y7 y8 hW8
  refine bodyPost_ret (v := .agg #[.int .i64 12, .int .i64 i, .string ⟨t.toArray⟩, .int .i64 (n : Nat), .string ⟨op.toArray⟩, .int .i64 (c : Nat), .int .i64 (p : Nat)]) (by simp [results, Tryz.results17, go_sem, rd0, rd1, rd2, rd3, rd4, rd5, rd6]) rfl ⟨HX.out, ?_⟩
  exact hB8.alloc hB8.size _
set_option maxRecDepth 100000 in
set_option maxHeartbeats 1000000 in
theorem refRead_dq (s : ByteArray) (i : Nat) (op : List UInt8) (last : Nat) (w : World) (hs : s.size ≤ 3000) (h : i < s.size) (hc : bt s i = 34) :
    Calls Tryz.prog 17 #[.string s, .int .i64 i, .string ⟨op.toArray⟩, .int .i64 last] w fun e w' => e = .returned (OnV (rdO s i op last)) ∧ Below w.heap.size w w' := by
  have hf : flowB (bt s i) = false := by rw [hc]; decide
  have hF : ∀ w, Calls Tryz.prog 37 #[.int .u8 (s[i].toNat : Int)] w fun e w' => e = .returned (.bool false) ∧ w = w' := fun w => by
    have h0 := refFlow_any (s[i].toNat) w (UInt8.toNat_lt _)
    rwa [show flowB (s[i].toNat) = false by rw [bt_get s i h]; exact hf] at h0
  have q38 : ((s[i].toNat : Int) == 38) = false := (ne_true (c := 38) h (by omega)).2
  have q42 : ((s[i].toNat : Int) == 42) = false := (ne_true (c := 42) h (by omega)).2
  have q33 : ((s[i].toNat : Int) == 33) = false := (ne_true (c := 33) h (by omega)).2
  have q124 : ((s[i].toNat : Int) == 124) = false := (ne_true (c := 124) h (by omega)).2
  have q39 : ((s[i].toNat : Int) == 39) = false := (ne_true (c := 39) h (by omega)).2
  have q34 : ((s[i].toNat : Int) == 34) = true := (eq_true (c := 34) h hc).2
  obtain ⟨⟨t, n, c, p⟩, hq⟩ : ∃ x, dblQ s i = x := ⟨_, rfl⟩
  have hS := fun w => refSingle_no s i w (by omega) (.inr (.inr ⟨i, h, rfl, by omega⟩))
  have hC := fun w => refDouble_yes s i w (by omega) h hc
  rw [dblV_Q, hq] at hC
  simp only [qV] at hC
  have HX := Lib.hid (show (Ending.returned (.agg #[.int .i64 12, .int .i64 i, .string ⟨t.toArray⟩, .int .i64 (n : Nat), .string ⟨op.toArray⟩, .int .i64 (c : Nat), .int .i64 (p : Nat)]) : Ending) = .returned (OnV (rdO s i op last)) by
    unfold rdO; rw [if_neg (by omega), if_pos hc, hq]; rfl)
  clear hf hc hq
  go_enter Tryz.func17, Tryz.ntmps17
  go_wp2_with fail
  refine (hF _).mono ?_
  rintro e w' ⟨rfl, rfl⟩
  go_wp2_with fail
  refine (hS _).mono ?_
  rintro e w1 ⟨rfl, hb⟩
  have hb1 := ((Below.refl w.heap.size w).alloc (Nat.le_refl _) (.cells #[.int .i64 0, .int .i64 0, .string ⟨#[]⟩, .int .i64 0, .string ⟨#[]⟩, .int .i64 0, .int .i64 0] 43)).trans (hb.mono (by simp))
  have hx1 := (hb.block w.heap.size (by simp)).trans (heap_alloc_new w (.cells #[.int .i64 0, .int .i64 0, .string ⟨#[]⟩, .int .i64 0, .string ⟨#[]⟩, .int .i64 0, .int .i64 0] 43))
  have hl1 : w.heap.size < w1.heap.size := (Array.getElem?_eq_some_iff.1 hx1).1
  have hW2 := hb1.alloc hb1.size (.cells #[.string ⟨#[]⟩, .int .i64 0, .int .i64 3, .int .i64 i] 72)
  have hx2 := (Lib.alloc_old w1 (.cells #[.string ⟨#[]⟩, .int .i64 0, .int .i64 3, .int .i64 i] 72) w.heap.size hl1).trans hx1
  have hy2 := heap_alloc_new w1 (.cells #[.string ⟨#[]⟩, .int .i64 0, .int .i64 3, .int .i64 i] 72)
  have hW2s : w1.heap.size < (w1.alloc (.cells #[.string ⟨#[]⟩, .int .i64 0, .int .i64 3, .int .i64 i] 72)).heap.size := by simp
  clear hb hS hF
  go_wp2_with fail
  refine (hC _).mono ?_
  rintro e w2 ⟨rfl, hb⟩
  have hb3 := hW2.trans (hb.mono hW2.size)
  have hx3 := (hb.block w.heap.size (Nat.lt_trans hl1 hW2s)).trans hx2
  have hy3 := (hb.block w1.heap.size hW2s).trans hy2
  have rc0 := cell_hp hx3 0 _ rfl
  have rf0 := free_hp hx3 0
  have rc1 := cell_hp hx3 1 _ rfl
  have rf1 := free_hp hx3 1
  have rc2 := cell_hp hx3 2 _ rfl
  have rf2 := free_hp hx3 2
  have rc3 := cell_hp hx3 3 _ rfl
  have rf3 := free_hp hx3 3
  have rc4 := cell_hp hx3 4 _ rfl
  have rf4 := free_hp hx3 4
  have rc5 := cell_hp hx3 5 _ rfl
  have rf5 := free_hp hx3 5
  have rc6 := cell_hp hx3 6 _ rfl
  have rf6 := free_hp hx3 6
  have gc0 := cell_hp hy3 0 _ rfl
  have gf0 := free_hp hy3 0
  have gc1 := cell_hp hy3 1 _ rfl
  have gf1 := free_hp hy3 1
  have gc2 := cell_hp hy3 2 _ rfl
  have gf2 := free_hp hy3 2
  have gc3 := cell_hp hy3 3 _ rfl
  have gf3 := free_hp hy3 3
  have hgl : w.heap.size ≤ w1.heap.size := Nat.le_of_lt hl1
  clear hb hx1 hx2 hx3 hy2 hy3 hC hW2 hW2s hb1
  generalize w1.heap.size = g at *
  have hgn : ¬ w.heap.size = g := by omega
  have hgm : ¬ g = w.heap.size := by omega
  go_wp2
  refine bodyPost_ret (v := .agg #[.int .i64 12, .int .i64 i, .string ⟨t.toArray⟩, .int .i64 (n : Nat), .string ⟨op.toArray⟩, .int .i64 (c : Nat), .int .i64 (p : Nat)]) (by simp [results, Tryz.results17, go_sem, rc0, rc1, rc2, rc3, rc4, rc5, rc6]) rfl ⟨HX.out, ?_⟩
  exact (((((((((((hb3.setCell (p := ⟨g, 0, none⟩) hgl _).setCell (p := ⟨g, 1, none⟩) hgl _).setCell (p := ⟨g, 2, none⟩) hgl _).setCell (p := ⟨g, 3, none⟩) hgl _).setCell (p := ⟨w.heap.size, 0, none⟩) (Nat.le_refl _) _).setCell (p := ⟨w.heap.size, 1, none⟩) (Nat.le_refl _) _).setCell (p := ⟨w.heap.size, 2, none⟩) (Nat.le_refl _) _).setCell (p := ⟨w.heap.size, 3, none⟩) (Nat.le_refl _) _).setCell (p := ⟨w.heap.size, 4, none⟩) (Nat.le_refl _) _).setCell (p := ⟨w.heap.size, 5, none⟩) (Nat.le_refl _) _).setCell (p := ⟨w.heap.size, 6, none⟩) (Nat.le_refl _) _)
end Go.Proofs.YtnnnanemefcmdaaGreatDoor
