/- The walk of the document's read (layer 7): header, colon, dash. -/
import Derived.Test.YtnnnanemefcmdaaGreatDoorZL1b
namespace Go.Proofs.YtnnnanemefcmdaaGreatDoor
open Go.RowKit

set_option maxRecDepth 100000 in
set_option maxHeartbeats 1000000 in
theorem refRead_lit0 (s : ByteArray) (i : Nat)  (last : Nat) (w : World) (hs : s.size ≤ 3000) (h : i < s.size) (hc : bt s i = 124) :
    Calls Tryz.prog 17 #[.string s, .int .i64 i, .string ⟨#[]⟩, .int .i64 last] w fun e w' => e = .returned (OnV (rdO s i [] last)) ∧ Below w.heap.size w w' := by
  have hf : flowB (bt s i) = false := by rw [hc]; decide
  have hF : ∀ w, Calls Tryz.prog 37 #[.int .u8 (s[i].toNat : Int)] w fun e w' => e = .returned (.bool false) ∧ w = w' := fun w => by
    have h0 := refFlow_any (s[i].toNat) w (UInt8.toNat_lt _)
    rwa [show flowB (s[i].toNat) = false by rw [bt_get s i h]; exact hf] at h0
  have q38 : ((s[i].toNat : Int) == 38) = false := (ne_true (c := 38) h (by omega)).2
  have q42 : ((s[i].toNat : Int) == 42) = false := (ne_true (c := 42) h (by omega)).2
  have q33 : ((s[i].toNat : Int) == 33) = false := (ne_true (c := 33) h (by omega)).2
  have q124 : ((s[i].toNat : Int) == 124) = true := (eq_true (c := 124) h hc).2
  have hH := fun w => refHead_yes s i w (by omega) h hc
  have hbd := hdr_bd s i h
  obtain ⟨⟨a1, a2, n⟩, hn⟩ : ∃ x, hdr s i = x := ⟨_, rfl⟩
  simp only [hn] at hH hbd
  obtain ⟨hn1, hn2⟩ := hbd
  have HX := Lib.hid (show (Ending.returned (.agg #[.int .i64 13, .int .i64 i, .string (s.extract i n), .int .i64 n, .string ⟨#[]⟩, .int .i64 0, .int .i64 0]) : Ending) = .returned (OnV (rdO s i [] last)) by
    unfold rdO reO; rw [if_neg (by omega), if_neg (by omega), if_neg (by rw [hf]; simp), if_neg (by omega), if_neg (by omega), if_neg (by omega), if_pos hc, if_neg (by simp), hn, OnV_tok]; rfl)
  clear hf hc hn
  go_enter Tryz.func17, Tryz.ntmps17
  go_wp2_with fail
  refine (hF _).mono ?_
  rintro e w' ⟨rfl, rfl⟩
  go_wp2_with fail
  refine (hH _).mono ?_
  rintro e w1 ⟨rfl, hb⟩
  have hb1 := ((Below.refl w.heap.size w).alloc (Nat.le_refl _) (.cells #[.int .i64 0, .int .i64 0, .string ⟨#[]⟩, .int .i64 0, .string ⟨#[]⟩, .int .i64 0, .int .i64 0] 43)).trans (hb.mono (by simp))
  have hx1 := (hb.block w.heap.size (by simp)).trans (heap_alloc_new w (.cells #[.int .i64 0, .int .i64 0, .string ⟨#[]⟩, .int .i64 0, .string ⟨#[]⟩, .int .i64 0, .int .i64 0] 43))
  have hl1 : w.heap.size < w1.heap.size := (Array.getElem?_eq_some_iff.1 hx1).1
  have rc0 := cell_hp hx1 0 _ rfl
  have rf0 := free_hp hx1 0
  have rc1 := cell_hp hx1 1 _ rfl
  have rf1 := free_hp hx1 1
  have rc2 := cell_hp hx1 2 _ rfl
  have rf2 := free_hp hx1 2
  have rc3 := cell_hp hx1 3 _ rfl
  have rf3 := free_hp hx1 3
  have rc4 := cell_hp hx1 4 _ rfl
  have rf4 := free_hp hx1 4
  have rc5 := cell_hp hx1 5 _ rfl
  have rf5 := free_hp hx1 5
  have rc6 := cell_hp hx1 6 _ rfl
  have rf6 := free_hp hx1 6
  clear hb hH hF
  go_wp2
  have y0 := heap_setCell_same _ w.heap.size 0 _ _ (.int .i64 13) hx1
  have y1 := heap_setCell_same _ w.heap.size 1 _ _ (.int .i64 i) y0
  have y2 := heap_setCell_same _ w.heap.size 2 _ _ (.string (s.extract i n)) y1
  have y3 := heap_setCell_same _ w.heap.size 3 _ _ (.int .i64 n) y2
  have y4 := heap_setCell_same _ w.heap.size 4 _ _ (.string ⟨#[]⟩) y3
  have y5 := heap_setCell_same _ w.heap.size 5 _ _ (.int .i64 0) y4
  have y6 := heap_setCell_same _ w.heap.size 6 _ _ (.int .i64 0) y5
  have hB8 : Below w.heap.size w (((((((w1.setCell ⟨w.heap.size, 0, none⟩ (.int .i64 13)).setCell ⟨w.heap.size, 1, none⟩ (.int .i64 i)).setCell ⟨w.heap.size, 2, none⟩ (.string (s.extract i n))).setCell ⟨w.heap.size, 3, none⟩ (.int .i64 n)).setCell ⟨w.heap.size, 4, none⟩ (.string ⟨#[]⟩)).setCell ⟨w.heap.size, 5, none⟩ (.int .i64 0)).setCell ⟨w.heap.size, 6, none⟩ (.int .i64 0)) := (((((((hb1.setCell (p := ⟨w.heap.size, 0, none⟩) (Nat.le_refl _) _).setCell (p := ⟨w.heap.size, 1, none⟩) (Nat.le_refl _) _).setCell (p := ⟨w.heap.size, 2, none⟩) (Nat.le_refl _) _).setCell (p := ⟨w.heap.size, 3, none⟩) (Nat.le_refl _) _).setCell (p := ⟨w.heap.size, 4, none⟩) (Nat.le_refl _) _).setCell (p := ⟨w.heap.size, 5, none⟩) (Nat.le_refl _) _).setCell (p := ⟨w.heap.size, 6, none⟩) (Nat.le_refl _) _)
  obtain ⟨W8, hW8⟩ : ∃ W8, (((((((w1.setCell ⟨w.heap.size, 0, none⟩ (.int .i64 13)).setCell ⟨w.heap.size, 1, none⟩ (.int .i64 i)).setCell ⟨w.heap.size, 2, none⟩ (.string (s.extract i n))).setCell ⟨w.heap.size, 3, none⟩ (.int .i64 n)).setCell ⟨w.heap.size, 4, none⟩ (.string ⟨#[]⟩)).setCell ⟨w.heap.size, 5, none⟩ (.int .i64 0)).setCell ⟨w.heap.size, 6, none⟩ (.int .i64 0)) = W8 := ⟨_, rfl⟩
  rw [hW8] at y6 hB8 ⊢
  have y7 : W8.heap[w.heap.size]? = some (.cells #[.int .i64 13, .int .i64 i, .string (s.extract i n), .int .i64 n, .string ⟨#[]⟩, .int .i64 0, .int .i64 0] 43) := y6
  have y8 := (Lib.alloc_old W8 (.cells #[.int .i64 (a1 : Nat), .int .i64 (a2 : Nat)] 67) w.heap.size (Array.getElem?_eq_some_iff.1 y7).1).trans y7
  have rd0 := cell_hp y8 0 _ rfl
  have rd1 := cell_hp y8 1 _ rfl
  have rd2 := cell_hp y8 2 _ rfl
  have rd3 := cell_hp y8 3 _ rfl
  have rd4 := cell_hp y8 4 _ rfl
  have rd5 := cell_hp y8 5 _ rfl
  have rd6 := cell_hp y8 6 _ rfl
  clear y0 y1 y2 y3 y4 y5 y6 y7 y8 hW8
  refine bodyPost_ret (v := .agg #[.int .i64 13, .int .i64 i, .string (s.extract i n), .int .i64 n, .string ⟨#[]⟩, .int .i64 0, .int .i64 0]) (by simp [results, Tryz.results17, go_sem, rd0, rd1, rd2, rd3, rd4, rd5, rd6]) rfl ⟨HX.out, ?_⟩
  exact hB8.alloc hB8.size _
set_option maxRecDepth 100000 in
set_option maxHeartbeats 1000000 in
theorem refRead_lit1 (s : ByteArray) (i : Nat) (b : UInt8) (o : List UInt8) (last : Nat) (w : World) (hs : s.size ≤ 3000) (h : i < s.size) (hc : bt s i = 124) :
    Calls Tryz.prog 17 #[.string s, .int .i64 i, .string ⟨(b :: o).toArray⟩, .int .i64 last] w fun e w' => e = .returned (OnV (rdO s i (b :: o) last)) ∧ Below w.heap.size w w' := by
  have hf : flowB (bt s i) = false := by rw [hc]; decide
  have hF : ∀ w, Calls Tryz.prog 37 #[.int .u8 (s[i].toNat : Int)] w fun e w' => e = .returned (.bool false) ∧ w = w' := fun w => by
    have h0 := refFlow_any (s[i].toNat) w (UInt8.toNat_lt _)
    rwa [show flowB (s[i].toNat) = false by rw [bt_get s i h]; exact hf] at h0
  have q38 : ((s[i].toNat : Int) == 38) = false := (ne_true (c := 38) h (by omega)).2
  have q42 : ((s[i].toNat : Int) == 42) = false := (ne_true (c := 42) h (by omega)).2
  have q33 : ((s[i].toNat : Int) == 33) = false := (ne_true (c := 33) h (by omega)).2
  have q124 : ((s[i].toNat : Int) == 124) = true := (eq_true (c := 124) h hc).2
  have hH := fun w => refHead_yes s i w (by omega) h hc
  have hbd := hdr_bd s i h
  obtain ⟨⟨a1, a2, n⟩, hn⟩ : ∃ x, hdr s i = x := ⟨_, rfl⟩
  simp only [hn] at hH hbd
  obtain ⟨hn1, hn2⟩ := hbd
  have HX := Lib.hid (show (Ending.returned (.agg #[.int .i64 0, .int .i64 0, .string ⟨#[]⟩, .int .i64 0, .string ⟨#[]⟩, .int .i64 3, .int .i64 i]) : Ending) = .returned (OnV (rdO s i (b :: o) last)) by
    unfold rdO reO; rw [if_neg (by omega), if_neg (by omega), if_neg (by rw [hf]; simp), if_neg (by omega), if_neg (by omega), if_neg (by omega), if_pos hc, if_pos (by simp)]; rfl)
  clear hf hc hn
  go_enter Tryz.func17, Tryz.ntmps17
  go_wp2_with fail
  refine (hF _).mono ?_
  rintro e w' ⟨rfl, rfl⟩
  go_wp2_with fail
  refine (hH _).mono ?_
  rintro e w1 ⟨rfl, hb⟩
  have hb1 := ((Below.refl w.heap.size w).alloc (Nat.le_refl _) (.cells #[.int .i64 0, .int .i64 0, .string ⟨#[]⟩, .int .i64 0, .string ⟨#[]⟩, .int .i64 0, .int .i64 0] 43)).trans (hb.mono (by simp))
  have hx1 := (hb.block w.heap.size (by simp)).trans (heap_alloc_new w (.cells #[.int .i64 0, .int .i64 0, .string ⟨#[]⟩, .int .i64 0, .string ⟨#[]⟩, .int .i64 0, .int .i64 0] 43))
  have hl1 : w.heap.size < w1.heap.size := (Array.getElem?_eq_some_iff.1 hx1).1
  have hbh := hb1.alloc hb1.size (.cells #[.int .i64 (a1 : Nat), .int .i64 (a2 : Nat)] 67)
  have hx2 := (Lib.alloc_old w1 (.cells #[.int .i64 (a1 : Nat), .int .i64 (a2 : Nat)] 67) w.heap.size hl1).trans hx1
  clear hb hH hF
  go_wp2_with fail
  refine (refWrong_any i _).mono ?_
  rintro e w2 ⟨rfl, hb⟩
  have hb2 := hbh.trans (hb.mono hbh.size)
  have hx3 := (hb.block w.heap.size (Nat.lt_succ_of_lt hl1 |> fun h => by simpa using h)).trans hx2
  clear hb hx1 hl1 hb1 hbh hx2
  have rc0 := cell_hp hx3 0 _ rfl
  have rf0 := free_hp hx3 0
  have rc1 := cell_hp hx3 1 _ rfl
  have rf1 := free_hp hx3 1
  have rc2 := cell_hp hx3 2 _ rfl
  have rf2 := free_hp hx3 2
  have rc3 := cell_hp hx3 3 _ rfl
  have rf3 := free_hp hx3 3
  have rc4 := cell_hp hx3 4 _ rfl
  have rf4 := free_hp hx3 4
  have rc5 := cell_hp hx3 5 _ rfl
  have rf5 := free_hp hx3 5
  have rc6 := cell_hp hx3 6 _ rfl
  have rf6 := free_hp hx3 6
  clear hx3
  go_wp2
  refine bodyPost_ret (v := .agg #[.int .i64 0, .int .i64 0, .string ⟨#[]⟩, .int .i64 0, .string ⟨#[]⟩, .int .i64 3, .int .i64 i]) (by simp [results, Tryz.results17, go_sem, rc0, rc1, rc2, rc3, rc4, rc5, rc6]) rfl ⟨HX.out, ?_⟩
  exact (((((((hb2.setCell (p := ⟨w.heap.size, 0, none⟩) (Nat.le_refl _) _).setCell (p := ⟨w.heap.size, 1, none⟩) (Nat.le_refl _) _).setCell (p := ⟨w.heap.size, 2, none⟩) (Nat.le_refl _) _).setCell (p := ⟨w.heap.size, 3, none⟩) (Nat.le_refl _) _).setCell (p := ⟨w.heap.size, 4, none⟩) (Nat.le_refl _) _).setCell (p := ⟨w.heap.size, 5, none⟩) (Nat.le_refl _) _).setCell (p := ⟨w.heap.size, 6, none⟩) (Nat.le_refl _) _)
set_option maxRecDepth 100000 in
set_option maxHeartbeats 1000000 in
theorem refRead_col0 (s : ByteArray) (i : Nat)  (last : Nat) (w : World) (hs : s.size ≤ 3000) (h : i < s.size) (hc : bt s i = 58) (hp : partsB s i false = true) :
    Calls Tryz.prog 17 #[.string s, .int .i64 i, .string ⟨#[]⟩, .int .i64 last] w fun e w' => e = .returned (OnV (rdO s i [] last)) ∧ Below w.heap.size w w' := by
  have hf : flowB (bt s i) = false := by rw [hc]; decide
  have hF : ∀ w, Calls Tryz.prog 37 #[.int .u8 (s[i].toNat : Int)] w fun e w' => e = .returned (.bool false) ∧ w = w' := fun w => by
    have h0 := refFlow_any (s[i].toNat) w (UInt8.toNat_lt _)
    rwa [show flowB (s[i].toNat) = false by rw [bt_get s i h]; exact hf] at h0
  have q38 : ((s[i].toNat : Int) == 38) = false := (ne_true (c := 38) h (by omega)).2
  have q42 : ((s[i].toNat : Int) == 42) = false := (ne_true (c := 42) h (by omega)).2
  have q33 : ((s[i].toNat : Int) == 33) = false := (ne_true (c := 33) h (by omega)).2
  have q124 : ((s[i].toNat : Int) == 124) = false := (ne_true (c := 124) h (by omega)).2
  have q39 : ((s[i].toNat : Int) == 39) = false := (ne_true (c := 39) h (by omega)).2
  have q34 : ((s[i].toNat : Int) == 34) = false := (ne_true (c := 34) h (by omega)).2
  have hP : ∀ w, Calls Tryz.prog 44 #[.string s, .int .i64 i, .bool false] w fun e w' => e = .returned (.bool true) ∧ w = w' := fun w => by
    have h0 := refParts_any s i false w h (by omega)
    rwa [hp] at h0

  have HX := Lib.hid (show (Ending.returned (.agg #[.int .i64 2, .int .i64 i, .string ⟨#[]⟩, .int .i64 ((i : Int) + 1), .string ⟨#[]⟩, .int .i64 0, .int .i64 0]) : Ending) = .returned (OnV (rdO s i [] last)) by
    unfold rdO reO; simp only [List.isEmpty_nil, Bool.not_true]; rw [if_neg (by omega), if_neg (by omega), if_neg (by rw [hf]; simp), if_neg (by omega), if_neg (by omega), if_neg (by omega), if_neg (by omega), if_pos hp]; rfl)
  clear hf hc hp
  go_enter Tryz.func17, Tryz.ntmps17
  go_wp2_with fail
  refine (hF _).mono ?_
  rintro e w' ⟨rfl, rfl⟩
  go_wp2_with fail
  refine (hP _).mono ?_
  rintro e w' ⟨rfl, rfl⟩
  go_wp2
  refine bodyPost_ret (v := .agg #[.int .i64 2, .int .i64 i, .string ⟨#[]⟩, .int .i64 ((i : Int) + 1), .string ⟨#[]⟩, .int .i64 0, .int .i64 0]) (by simp [results, Tryz.results17, go_sem]) rfl ⟨HX.out, ?_⟩
  exact (Below.refl _ _).alloc (Nat.le_refl _) _
set_option maxRecDepth 100000 in
set_option maxHeartbeats 1000000 in
theorem refRead_col1 (s : ByteArray) (i : Nat) (b : UInt8) (o : List UInt8) (last : Nat) (w : World) (hs : s.size ≤ 3000) (h : i < s.size) (hc : bt s i = 58) (hp : partsB s i true = true) :
    Calls Tryz.prog 17 #[.string s, .int .i64 i, .string ⟨(b :: o).toArray⟩, .int .i64 last] w fun e w' => e = .returned (OnV (rdO s i (b :: o) last)) ∧ Below w.heap.size w w' := by
  have hf : flowB (bt s i) = false := by rw [hc]; decide
  have hF : ∀ w, Calls Tryz.prog 37 #[.int .u8 (s[i].toNat : Int)] w fun e w' => e = .returned (.bool false) ∧ w = w' := fun w => by
    have h0 := refFlow_any (s[i].toNat) w (UInt8.toNat_lt _)
    rwa [show flowB (s[i].toNat) = false by rw [bt_get s i h]; exact hf] at h0
  have q38 : ((s[i].toNat : Int) == 38) = false := (ne_true (c := 38) h (by omega)).2
  have q42 : ((s[i].toNat : Int) == 42) = false := (ne_true (c := 42) h (by omega)).2
  have q33 : ((s[i].toNat : Int) == 33) = false := (ne_true (c := 33) h (by omega)).2
  have q124 : ((s[i].toNat : Int) == 124) = false := (ne_true (c := 124) h (by omega)).2
  have q39 : ((s[i].toNat : Int) == 39) = false := (ne_true (c := 39) h (by omega)).2
  have q34 : ((s[i].toNat : Int) == 34) = false := (ne_true (c := 34) h (by omega)).2
  have hP : ∀ w, Calls Tryz.prog 44 #[.string s, .int .i64 i, .bool true] w fun e w' => e = .returned (.bool true) ∧ w = w' := fun w => by
    have h0 := refParts_any s i true w h (by omega)
    rwa [hp] at h0

  have HX := Lib.hid (show (Ending.returned (.agg #[.int .i64 2, .int .i64 i, .string ⟨#[]⟩, .int .i64 ((i : Int) + 1), .string ⟨(b :: o).toArray⟩, .int .i64 0, .int .i64 0]) : Ending) = .returned (OnV (rdO s i (b :: o) last)) by
    unfold rdO reO; simp only [List.isEmpty_cons, Bool.not_false]; rw [if_neg (by omega), if_neg (by omega), if_neg (by rw [hf]; simp), if_neg (by omega), if_neg (by omega), if_neg (by omega), if_neg (by omega), if_pos hp]; rfl)
  clear hf hc hp
  go_enter Tryz.func17, Tryz.ntmps17
  go_wp2_with fail
  refine (hF _).mono ?_
  rintro e w' ⟨rfl, rfl⟩
  go_wp2_with fail
  refine (hP _).mono ?_
  rintro e w' ⟨rfl, rfl⟩
  go_wp2
  refine bodyPost_ret (v := .agg #[.int .i64 2, .int .i64 i, .string ⟨#[]⟩, .int .i64 ((i : Int) + 1), .string ⟨(b :: o).toArray⟩, .int .i64 0, .int .i64 0]) (by simp [results, Tryz.results17, go_sem]) rfl ⟨HX.out, ?_⟩
  exact (Below.refl _ _).alloc (Nat.le_refl _) _
set_option maxRecDepth 100000 in
set_option maxHeartbeats 1000000 in
theorem refRead_dae1 (s : ByteArray) (i : Nat)  (last : Nat) (w : World) (hs : s.size ≤ 3000) (h : i < s.size) (hc : bt s i = 45) (he : i + 1 = s.size) (hl : ¬ 1 < last) :
    Calls Tryz.prog 17 #[.string s, .int .i64 i, .string ⟨#[]⟩, .int .i64 last] w fun e w' => e = .returned (OnV (rdO s i [] last)) ∧ Below w.heap.size w w' := by
  have hf : flowB (bt s i) = false := by rw [hc]; decide
  have hp : partsB s i false = false := by unfold partsB; rw [decide_eq_false (show ¬ bt s i = 58 by omega)]; simp
  have hF : ∀ w, Calls Tryz.prog 37 #[.int .u8 (s[i].toNat : Int)] w fun e w' => e = .returned (.bool false) ∧ w = w' := fun w => by
    have h0 := refFlow_any (s[i].toNat) w (UInt8.toNat_lt _)
    rwa [show flowB (s[i].toNat) = false by rw [bt_get s i h]; exact hf] at h0
  have q38 : ((s[i].toNat : Int) == 38) = false := (ne_true (c := 38) h (by omega)).2
  have q42 : ((s[i].toNat : Int) == 42) = false := (ne_true (c := 42) h (by omega)).2
  have q33 : ((s[i].toNat : Int) == 33) = false := (ne_true (c := 33) h (by omega)).2
  have q124 : ((s[i].toNat : Int) == 124) = false := (ne_true (c := 124) h (by omega)).2
  have q39 : ((s[i].toNat : Int) == 39) = false := (ne_true (c := 39) h (by omega)).2
  have q34 : ((s[i].toNat : Int) == 34) = false := (ne_true (c := 34) h (by omega)).2
  have q45 : ((s[i].toNat : Int) == 45) = true := (eq_true (c := 45) h hc).2
  have hP : ∀ w, Calls Tryz.prog 44 #[.string s, .int .i64 i, .bool false] w fun e w' => e = .returned (.bool false) ∧ w = w' := fun w => by
    have h0 := refParts_any s i false w h (by omega)
    rwa [hp] at h0
  have qe : ((i : Int) == (s.size : Int) - 1) = true := by simp only [beq_iff_eq]; omega
  have ql : decide ((1 : Int) < (last : Int)) = false := decide_eq_false (by omega)
  have ql2 : decide (1 < last) = false := decide_eq_false (by omega)

  have HX := Lib.hid (show (Ending.returned (.agg #[.int .i64 1, .int .i64 i, .string ⟨#[]⟩, .int .i64 ((i : Int) + 1), .string ⟨#[]⟩, .int .i64 0, .int .i64 0]) : Ending) = .returned (OnV (rdO s i [] last)) by
    unfold rdO reO; simp only [List.isEmpty_nil, Bool.not_true]; rw [if_neg (by omega), if_neg (by omega), if_neg (by rw [hf]; simp), if_neg (by omega), if_neg (by omega), if_neg (by omega), if_neg (by omega), if_neg (by rw [hp]; simp), if_pos ⟨hc, trivial, .inl he⟩, if_neg (by omega)]; rfl)
  clear hf hc hp he
  go_enter Tryz.func17, Tryz.ntmps17
  go_wp2_with fail
  refine (hF _).mono ?_
  rintro e w' ⟨rfl, rfl⟩
  go_wp2_with fail
  refine (hP _).mono ?_
  rintro e w' ⟨rfl, rfl⟩
  go_wp2
  refine bodyPost_ret (v := .agg #[.int .i64 1, .int .i64 i, .string ⟨#[]⟩, .int .i64 ((i : Int) + 1), .string ⟨#[]⟩, .int .i64 0, .int .i64 0]) (by simp [results, Tryz.results17, go_sem]) rfl ⟨HX.out, ?_⟩
  exact (Below.refl _ _).alloc (Nat.le_refl _) _
set_option maxRecDepth 100000 in
set_option maxHeartbeats 1000000 in
theorem refRead_dae0 (s : ByteArray) (i : Nat)  (last : Nat) (w : World) (hs : s.size ≤ 3000) (h : i < s.size) (hc : bt s i = 45) (he : i + 1 = s.size) (hl : 1 < last) :
    Calls Tryz.prog 17 #[.string s, .int .i64 i, .string ⟨#[]⟩, .int .i64 last] w fun e w' => e = .returned (OnV (rdO s i [] last)) ∧ Below w.heap.size w w' := by
  have hf : flowB (bt s i) = false := by rw [hc]; decide
  have hp : partsB s i false = false := by unfold partsB; rw [decide_eq_false (show ¬ bt s i = 58 by omega)]; simp
  have hF : ∀ w, Calls Tryz.prog 37 #[.int .u8 (s[i].toNat : Int)] w fun e w' => e = .returned (.bool false) ∧ w = w' := fun w => by
    have h0 := refFlow_any (s[i].toNat) w (UInt8.toNat_lt _)
    rwa [show flowB (s[i].toNat) = false by rw [bt_get s i h]; exact hf] at h0
  have q38 : ((s[i].toNat : Int) == 38) = false := (ne_true (c := 38) h (by omega)).2
  have q42 : ((s[i].toNat : Int) == 42) = false := (ne_true (c := 42) h (by omega)).2
  have q33 : ((s[i].toNat : Int) == 33) = false := (ne_true (c := 33) h (by omega)).2
  have q124 : ((s[i].toNat : Int) == 124) = false := (ne_true (c := 124) h (by omega)).2
  have q39 : ((s[i].toNat : Int) == 39) = false := (ne_true (c := 39) h (by omega)).2
  have q34 : ((s[i].toNat : Int) == 34) = false := (ne_true (c := 34) h (by omega)).2
  have q45 : ((s[i].toNat : Int) == 45) = true := (eq_true (c := 45) h hc).2
  have hP : ∀ w, Calls Tryz.prog 44 #[.string s, .int .i64 i, .bool false] w fun e w' => e = .returned (.bool false) ∧ w = w' := fun w => by
    have h0 := refParts_any s i false w h (by omega)
    rwa [hp] at h0
  have qe : ((i : Int) == (s.size : Int) - 1) = true := by simp only [beq_iff_eq]; omega
  have ql : decide ((1 : Int) < (last : Int)) = true := decide_eq_true (by omega)
  have ql2 : decide (1 < last) = true := decide_eq_true (by omega)

  have HX := Lib.hid (show (Ending.returned (.agg #[.int .i64 0, .int .i64 0, .string ⟨#[]⟩, .int .i64 0, .string ⟨#[]⟩, .int .i64 3, .int .i64 i]) : Ending) = .returned (OnV (rdO s i [] last)) by
    unfold rdO reO; simp only [List.isEmpty_nil, Bool.not_true]; rw [if_neg (by omega), if_neg (by omega), if_neg (by rw [hf]; simp), if_neg (by omega), if_neg (by omega), if_neg (by omega), if_neg (by omega), if_neg (by rw [hp]; simp), if_pos ⟨hc, trivial, .inl he⟩, if_pos hl]; rfl)
  clear hf hc hp he
  go_enter Tryz.func17, Tryz.ntmps17
  go_wp2_with fail
  refine (hF _).mono ?_
  rintro e w' ⟨rfl, rfl⟩
  go_wp2_with fail
  refine (hP _).mono ?_
  rintro e w' ⟨rfl, rfl⟩
  clear hF hP
  go_wp2_with fail
  refine (refWrong_any i _).mono ?_
  rintro e w1 ⟨rfl, hb⟩
  have hb1 := ((Below.refl w.heap.size w).alloc (Nat.le_refl _) (.cells #[.int .i64 0, .int .i64 0, .string ⟨#[]⟩, .int .i64 0, .string ⟨#[]⟩, .int .i64 0, .int .i64 0] 43)).trans (hb.mono (by simp))
  have hx1 := (hb.block w.heap.size (by simp)).trans (heap_alloc_new w (.cells #[.int .i64 0, .int .i64 0, .string ⟨#[]⟩, .int .i64 0, .string ⟨#[]⟩, .int .i64 0, .int .i64 0] 43))
  have hl1 : w.heap.size < w1.heap.size := (Array.getElem?_eq_some_iff.1 hx1).1
  have rc0 := cell_hp hx1 0 _ rfl
  have rf0 := free_hp hx1 0
  have rc1 := cell_hp hx1 1 _ rfl
  have rf1 := free_hp hx1 1
  have rc2 := cell_hp hx1 2 _ rfl
  have rf2 := free_hp hx1 2
  have rc3 := cell_hp hx1 3 _ rfl
  have rf3 := free_hp hx1 3
  have rc4 := cell_hp hx1 4 _ rfl
  have rf4 := free_hp hx1 4
  have rc5 := cell_hp hx1 5 _ rfl
  have rf5 := free_hp hx1 5
  have rc6 := cell_hp hx1 6 _ rfl
  have rf6 := free_hp hx1 6
  clear hb hx1 hl1
  go_wp2
  refine bodyPost_ret (v := .agg #[.int .i64 0, .int .i64 0, .string ⟨#[]⟩, .int .i64 0, .string ⟨#[]⟩, .int .i64 3, .int .i64 i]) (by simp [results, Tryz.results17, go_sem, rc0, rc1, rc2, rc3, rc4, rc5, rc6]) rfl ⟨HX.out, ?_⟩
  exact (((((((hb1.setCell (p := ⟨w.heap.size, 0, none⟩) (Nat.le_refl _) _).setCell (p := ⟨w.heap.size, 1, none⟩) (Nat.le_refl _) _).setCell (p := ⟨w.heap.size, 2, none⟩) (Nat.le_refl _) _).setCell (p := ⟨w.heap.size, 3, none⟩) (Nat.le_refl _) _).setCell (p := ⟨w.heap.size, 4, none⟩) (Nat.le_refl _) _).setCell (p := ⟨w.heap.size, 5, none⟩) (Nat.le_refl _) _).setCell (p := ⟨w.heap.size, 6, none⟩) (Nat.le_refl _) _)
set_option maxRecDepth 100000 in
set_option maxHeartbeats 1000000 in
theorem refRead_dab1 (s : ByteArray) (i : Nat)  (last : Nat) (w : World) (hs : s.size ≤ 3000) (h : i < s.size) (hc : bt s i = 45) (hn : i + 1 < s.size) (he : bt s (i + 1) = 32) (hl : ¬ 1 < last) :
    Calls Tryz.prog 17 #[.string s, .int .i64 i, .string ⟨#[]⟩, .int .i64 last] w fun e w' => e = .returned (OnV (rdO s i [] last)) ∧ Below w.heap.size w w' := by
  have hf : flowB (bt s i) = false := by rw [hc]; decide
  have hp : partsB s i false = false := by unfold partsB; rw [decide_eq_false (show ¬ bt s i = 58 by omega)]; simp
  have hF : ∀ w, Calls Tryz.prog 37 #[.int .u8 (s[i].toNat : Int)] w fun e w' => e = .returned (.bool false) ∧ w = w' := fun w => by
    have h0 := refFlow_any (s[i].toNat) w (UInt8.toNat_lt _)
    rwa [show flowB (s[i].toNat) = false by rw [bt_get s i h]; exact hf] at h0
  have q38 : ((s[i].toNat : Int) == 38) = false := (ne_true (c := 38) h (by omega)).2
  have q42 : ((s[i].toNat : Int) == 42) = false := (ne_true (c := 42) h (by omega)).2
  have q33 : ((s[i].toNat : Int) == 33) = false := (ne_true (c := 33) h (by omega)).2
  have q124 : ((s[i].toNat : Int) == 124) = false := (ne_true (c := 124) h (by omega)).2
  have q39 : ((s[i].toNat : Int) == 39) = false := (ne_true (c := 39) h (by omega)).2
  have q34 : ((s[i].toNat : Int) == 34) = false := (ne_true (c := 34) h (by omega)).2
  have q45 : ((s[i].toNat : Int) == 45) = true := (eq_true (c := 45) h hc).2
  have hP : ∀ w, Calls Tryz.prog 44 #[.string s, .int .i64 i, .bool false] w fun e w' => e = .returned (.bool false) ∧ w = w' := fun w => by
    have h0 := refParts_any s i false w h (by omega)
    rwa [hp] at h0
  have qe : ((i : Int) == (s.size : Int) - 1) = false := by simp only [beq_eq_false_iff_ne, ne_eq]; omega
  have q32 : ((s[i + 1].toNat : Int) == 32) = true := (eq_true (c := 32) hn he).2
  have ql : decide ((1 : Int) < (last : Int)) = false := decide_eq_false (by omega)
  have ql2 : decide (1 < last) = false := decide_eq_false (by omega)

  have HX := Lib.hid (show (Ending.returned (.agg #[.int .i64 1, .int .i64 i, .string ⟨#[]⟩, .int .i64 ((i : Int) + 1), .string ⟨#[]⟩, .int .i64 0, .int .i64 0]) : Ending) = .returned (OnV (rdO s i [] last)) by
    unfold rdO reO; simp only [List.isEmpty_nil, Bool.not_true]; rw [if_neg (by omega), if_neg (by omega), if_neg (by rw [hf]; simp), if_neg (by omega), if_neg (by omega), if_neg (by omega), if_neg (by omega), if_neg (by rw [hp]; simp), if_pos ⟨hc, trivial, .inr he⟩, if_neg (by omega)]; rfl)
  clear hf hc hp he
  go_enter Tryz.func17, Tryz.ntmps17
  go_wp2_with fail
  refine (hF _).mono ?_
  rintro e w' ⟨rfl, rfl⟩
  go_wp2_with fail
  refine (hP _).mono ?_
  rintro e w' ⟨rfl, rfl⟩
  go_wp2
  refine bodyPost_ret (v := .agg #[.int .i64 1, .int .i64 i, .string ⟨#[]⟩, .int .i64 ((i : Int) + 1), .string ⟨#[]⟩, .int .i64 0, .int .i64 0]) (by simp [results, Tryz.results17, go_sem]) rfl ⟨HX.out, ?_⟩
  exact (Below.refl _ _).alloc (Nat.le_refl _) _
set_option maxRecDepth 100000 in
set_option maxHeartbeats 1000000 in
theorem refRead_dab0 (s : ByteArray) (i : Nat)  (last : Nat) (w : World) (hs : s.size ≤ 3000) (h : i < s.size) (hc : bt s i = 45) (hn : i + 1 < s.size) (he : bt s (i + 1) = 32) (hl : 1 < last) :
    Calls Tryz.prog 17 #[.string s, .int .i64 i, .string ⟨#[]⟩, .int .i64 last] w fun e w' => e = .returned (OnV (rdO s i [] last)) ∧ Below w.heap.size w w' := by
  have hf : flowB (bt s i) = false := by rw [hc]; decide
  have hp : partsB s i false = false := by unfold partsB; rw [decide_eq_false (show ¬ bt s i = 58 by omega)]; simp
  have hF : ∀ w, Calls Tryz.prog 37 #[.int .u8 (s[i].toNat : Int)] w fun e w' => e = .returned (.bool false) ∧ w = w' := fun w => by
    have h0 := refFlow_any (s[i].toNat) w (UInt8.toNat_lt _)
    rwa [show flowB (s[i].toNat) = false by rw [bt_get s i h]; exact hf] at h0
  have q38 : ((s[i].toNat : Int) == 38) = false := (ne_true (c := 38) h (by omega)).2
  have q42 : ((s[i].toNat : Int) == 42) = false := (ne_true (c := 42) h (by omega)).2
  have q33 : ((s[i].toNat : Int) == 33) = false := (ne_true (c := 33) h (by omega)).2
  have q124 : ((s[i].toNat : Int) == 124) = false := (ne_true (c := 124) h (by omega)).2
  have q39 : ((s[i].toNat : Int) == 39) = false := (ne_true (c := 39) h (by omega)).2
  have q34 : ((s[i].toNat : Int) == 34) = false := (ne_true (c := 34) h (by omega)).2
  have q45 : ((s[i].toNat : Int) == 45) = true := (eq_true (c := 45) h hc).2
  have hP : ∀ w, Calls Tryz.prog 44 #[.string s, .int .i64 i, .bool false] w fun e w' => e = .returned (.bool false) ∧ w = w' := fun w => by
    have h0 := refParts_any s i false w h (by omega)
    rwa [hp] at h0
  have qe : ((i : Int) == (s.size : Int) - 1) = false := by simp only [beq_eq_false_iff_ne, ne_eq]; omega
  have q32 : ((s[i + 1].toNat : Int) == 32) = true := (eq_true (c := 32) hn he).2
  have ql : decide ((1 : Int) < (last : Int)) = true := decide_eq_true (by omega)
  have ql2 : decide (1 < last) = true := decide_eq_true (by omega)

  have HX := Lib.hid (show (Ending.returned (.agg #[.int .i64 0, .int .i64 0, .string ⟨#[]⟩, .int .i64 0, .string ⟨#[]⟩, .int .i64 3, .int .i64 i]) : Ending) = .returned (OnV (rdO s i [] last)) by
    unfold rdO reO; simp only [List.isEmpty_nil, Bool.not_true]; rw [if_neg (by omega), if_neg (by omega), if_neg (by rw [hf]; simp), if_neg (by omega), if_neg (by omega), if_neg (by omega), if_neg (by omega), if_neg (by rw [hp]; simp), if_pos ⟨hc, trivial, .inr he⟩, if_pos hl]; rfl)
  clear hf hc hp he
  go_enter Tryz.func17, Tryz.ntmps17
  go_wp2_with fail
  refine (hF _).mono ?_
  rintro e w' ⟨rfl, rfl⟩
  go_wp2_with fail
  refine (hP _).mono ?_
  rintro e w' ⟨rfl, rfl⟩
  clear hF hP
  go_wp2_with fail
  refine (refWrong_any i _).mono ?_
  rintro e w1 ⟨rfl, hb⟩
  have hb1 := ((Below.refl w.heap.size w).alloc (Nat.le_refl _) (.cells #[.int .i64 0, .int .i64 0, .string ⟨#[]⟩, .int .i64 0, .string ⟨#[]⟩, .int .i64 0, .int .i64 0] 43)).trans (hb.mono (by simp))
  have hx1 := (hb.block w.heap.size (by simp)).trans (heap_alloc_new w (.cells #[.int .i64 0, .int .i64 0, .string ⟨#[]⟩, .int .i64 0, .string ⟨#[]⟩, .int .i64 0, .int .i64 0] 43))
  have hl1 : w.heap.size < w1.heap.size := (Array.getElem?_eq_some_iff.1 hx1).1
  have rc0 := cell_hp hx1 0 _ rfl
  have rf0 := free_hp hx1 0
  have rc1 := cell_hp hx1 1 _ rfl
  have rf1 := free_hp hx1 1
  have rc2 := cell_hp hx1 2 _ rfl
  have rf2 := free_hp hx1 2
  have rc3 := cell_hp hx1 3 _ rfl
  have rf3 := free_hp hx1 3
  have rc4 := cell_hp hx1 4 _ rfl
  have rf4 := free_hp hx1 4
  have rc5 := cell_hp hx1 5 _ rfl
  have rf5 := free_hp hx1 5
  have rc6 := cell_hp hx1 6 _ rfl
  have rf6 := free_hp hx1 6
  clear hb hx1 hl1
  go_wp2
  refine bodyPost_ret (v := .agg #[.int .i64 0, .int .i64 0, .string ⟨#[]⟩, .int .i64 0, .string ⟨#[]⟩, .int .i64 3, .int .i64 i]) (by simp [results, Tryz.results17, go_sem, rc0, rc1, rc2, rc3, rc4, rc5, rc6]) rfl ⟨HX.out, ?_⟩
  exact (((((((hb1.setCell (p := ⟨w.heap.size, 0, none⟩) (Nat.le_refl _) _).setCell (p := ⟨w.heap.size, 1, none⟩) (Nat.le_refl _) _).setCell (p := ⟨w.heap.size, 2, none⟩) (Nat.le_refl _) _).setCell (p := ⟨w.heap.size, 3, none⟩) (Nat.le_refl _) _).setCell (p := ⟨w.heap.size, 4, none⟩) (Nat.le_refl _) _).setCell (p := ⟨w.heap.size, 5, none⟩) (Nat.le_refl _) _).setCell (p := ⟨w.heap.size, 6, none⟩) (Nat.le_refl _) _)
end Go.Proofs.YtnnnanemefcmdaaGreatDoor
