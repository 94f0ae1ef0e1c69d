/- The walks of the program's header and plain (layer 7). -/
import Derived.Test.YtnnnanemefcmdaaGreatDoorZPrN
import Derived.Test.YtnnnanemefcmdaaGreatDoorZPHead
import Derived.Test.YtnnnanemefcmdaaGreatDoorZL0d
import Derived.Test.YtnnnanemefcmdaaGreatDoorZPrC
import Derived.Test.YtnnnanemefcmdaaGreatDoorZPrE
import Derived.Test.YtnnnanemefcmdaaGreatDoorZL1c
import Derived.Test.YtnnnanemefcmdaaGreatDoorZTokS
import Derived.Test.YtnnnanemefcmdaaGreatDoorZTokS2
import Derived.Test.YtnnnanemefcmdaaGreatDoorZTokS3
import Derived.Test.YtnnnanemefcmdaaGreatDoorZTokS4
namespace Go.Proofs.YtnnnanemefcmdaaGreatDoor
open Go.RowKit
set_option maxRecDepth 100000 in
set_option maxHeartbeats 2000000 in
theorem prHeader_0 {W0 : World} {R B g : Nat} {s : ByteArray} {tv : Value} {toks : List Tk}  (i : Nat) (w : World) (h : St W0 R B g s tv toks [] w) (hs : s.size ≤ 3000) (hi : i < s.size) (hc : bt s i = 124) :
    Calls Tryz.prog 31 #[.pointer (some ⟨B, 0, none⟩), .int .i64 i] w fun e w' => e = .returned (PrV (⟨13, i, (s.extract i (hdr s i).2.2).data.toList, (hdr s i).2.2, [], 0, 0⟩)) ∧ Below w.heap.size w w' := by
  have c0 := cell_hp h.row 0 _ rfl
  have hBl := hlt_of h.row
  have hBm : ¬ B = w.heap.size := by omega
  have hH := fun w => pHead_yes s i w (by omega) hi hc
  have hbd := hdr_bd s i hi
  have hF := fun w2 (hb : Below w.heap.size w w2) => prFlow_any w2 (h.below hb) false rfl
  obtain ⟨⟨p1, p2, n⟩, hn⟩ : ∃ x, hdr s i = x := ⟨_, rfl⟩
  have HX := Lib.hid (show (Ending.returned (.tuple #[.agg #[.int .i64 13, .int .i64 0, .string (s.extract i n)], .int .i64 n, .agg #[.int .i64 0, .int .i64 0]]) : Ending) = .returned (PrV (⟨13, i, (s.extract i (hdr s i).2.2).data.toList, (hdr s i).2.2, [], 0, 0⟩)) by
    rw [hn]; unfold PrV; rw [if_pos rfl]; simp only [mk_self]; rfl)
  simp only [hn] at hH hbd
  obtain ⟨hn1, hn2⟩ := hbd
  have hrow := h.row
  clear hc hn h
  go_enter Tryz.func31, Tryz.ntmps31
  go_wp2_with fail
  refine (hH _).mono ?_
  rintro e w1 ⟨rfl, hb⟩
  obtain ⟨hb1, hx1, hx2⟩ := res2 hb (by simp)
  have hr1 := (hb1.block B hBl).trans hrow
  have hBl1 := hlt_of hr1
  have k0 := cell_hp hr1 0 _ rfl
  have hl1 := hlt_of hx1
  have hl2 := hlt_of hx2
  have hBn : ¬ B = w1.heap.size := by omega
  have hza : ¬ w.heap.size = w1.heap.size := by omega
  have hzb : ¬ w.heap.size + 1 = w1.heap.size := by omega
  have a0 := cell_hp hx1 0 _ rfl
  have e0 := free_hp hx1 0
  have a1 := cell_hp hx1 1 _ rfl
  have e1 := free_hp hx1 1
  have a2 := cell_hp hx1 2 _ rfl
  have e2 := free_hp hx1 2
  have d0 := cell_hp hx2 0 _ rfl
  have f0 := free_hp hx2 0
  have d1 := cell_hp hx2 1 _ rfl
  have f1 := free_hp hx2 1
  clear hb hH c0 hr1 hrow
  go_wp2_with fail
  refine (hF _ ?_).mono ?_
  · exact hb1.alloc hb1.size _
  rintro e w' ⟨rfl, rfl⟩
  clear hF
  obtain ⟨W2, hW2⟩ : ∃ W2, w1.alloc (.cells #[.int .i64 (p1 : Nat), .int .i64 (p2 : Nat)] 102) = W2 := ⟨_, rfl⟩
  have hbW : Below w.heap.size w W2 := by rw [← hW2]; exact hb1.alloc hb1.size _
  have hy1 : W2.heap[w.heap.size]? = some (.cells #[.int .i64 0, .int .i64 0, .string ⟨#[]⟩] 38) := by rw [← hW2, Lib.alloc_old _ _ _ hl1]; exact hx1
  have hy2 : W2.heap[w.heap.size + 1]? = some (.cells #[.int .i64 0, .int .i64 0] 27) := by rw [← hW2, Lib.alloc_old _ _ _ hl2]; exact hx2
  have hyB : W2.cell? ⟨B, 0, none⟩ = some (.string s) := by rw [← hW2, World.cell?_alloc_lt _ _ _ hBl1]; exact k0
  rw [hW2]
  clear hW2 k0 a0 a1 a2 e0 e1 e2 d0 d1 f0 f1 hx1 hx2
  have a0 := cell_hp hy1 0 _ rfl
  have e0 := free_hp hy1 0
  have a1 := cell_hp hy1 1 _ rfl
  have e1 := free_hp hy1 1
  have a2 := cell_hp hy1 2 _ rfl
  have e2 := free_hp hy1 2
  have d0 := cell_hp hy2 0 _ rfl
  have f0 := free_hp hy2 0
  have d1 := cell_hp hy2 1 _ rfl
  have f1 := free_hp hy2 1
  clear hy1 hy2
  go_wp2
  refine bodyPost_ret (v := .tuple #[.agg #[.int .i64 13, .int .i64 0, .string (s.extract i n)], .int .i64 n, .agg #[.int .i64 0, .int .i64 0]]) (by simp [results, Tryz.results31, go_sem, a0, a1, a2, d0, d1]) rfl ⟨HX.out, ?_⟩
  exact ((((hbW.setCell (p := ⟨w.heap.size, 0, none⟩) (Nat.le_refl _) _).setCell (p := ⟨w.heap.size, 1, none⟩) (Nat.le_refl _) _).setCell (p := ⟨w.heap.size, 2, none⟩) (Nat.le_refl _) _).setCell (p := ⟨w.heap.size + 1, 0, none⟩) (Nat.le_succ _) _).setCell (p := ⟨w.heap.size + 1, 1, none⟩) (Nat.le_succ _) _
set_option maxRecDepth 100000 in
set_option maxHeartbeats 2000000 in
theorem prHeader_1 {W0 : World} {R B g : Nat} {s : ByteArray} {tv : Value} {toks : List Tk} (b : UInt8) (o : List UInt8) (i : Nat) (w : World) (h : St W0 R B g s tv toks (b :: o) w) (hs : s.size ≤ 3000) (hi : i < s.size) (hc : bt s i = 124) :
    Calls Tryz.prog 31 #[.pointer (some ⟨B, 0, none⟩), .int .i64 i] w fun e w' => e = .returned (PrV (wrO i)) ∧ Below w.heap.size w w' := by
  have c0 := cell_hp h.row 0 _ rfl
  have hBl := hlt_of h.row
  have hBm : ¬ B = w.heap.size := by omega
  have hH := fun w => pHead_yes s i w (by omega) hi hc
  have hbd := hdr_bd s i hi
  have hF := fun w2 (hb : Below w.heap.size w w2) => prFlow_any w2 (h.below hb) true rfl
  obtain ⟨⟨p1, p2, n⟩, hn⟩ : ∃ x, hdr s i = x := ⟨_, rfl⟩
  have HX := Lib.hid (show (Ending.returned (.tuple #[.agg #[.int .i64 0, .int .i64 0, .string ⟨#[]⟩], .int .i64 0, .agg #[.int .i64 3, .int .i64 i]]) : Ending) = .returned (PrV (wrO i)) by
    rfl)
  simp only [hn] at hH hbd
  obtain ⟨hn1, hn2⟩ := hbd
  have hrow := h.row
  clear hc hn h
  go_enter Tryz.func31, Tryz.ntmps31
  go_wp2_with fail
  refine (hH _).mono ?_
  rintro e w1 ⟨rfl, hb⟩
  obtain ⟨hb1, hx1, hx2⟩ := res2 hb (by simp)
  have hr1 := (hb1.block B hBl).trans hrow
  have hBl1 := hlt_of hr1
  have k0 := cell_hp hr1 0 _ rfl
  have hl1 := hlt_of hx1
  have hl2 := hlt_of hx2
  have hBn : ¬ B = w1.heap.size := by omega
  have hza : ¬ w.heap.size = w1.heap.size := by omega
  have hzb : ¬ w.heap.size + 1 = w1.heap.size := by omega
  clear hb hH c0 hr1 hrow
  go_wp2_with fail
  refine (hF _ ?_).mono ?_
  · exact hb1.alloc hb1.size _
  rintro e w' ⟨rfl, rfl⟩
  have hbW := hb1.alloc hb1.size (.cells #[.int .i64 (p1 : Nat), .int .i64 (p2 : Nat)] 102)
  have hy1 := (Lib.alloc_old w1 (.cells #[.int .i64 (p1 : Nat), .int .i64 (p2 : Nat)] 102) _ hl1).trans hx1
  have hy2 := (Lib.alloc_old w1 (.cells #[.int .i64 (p1 : Nat), .int .i64 (p2 : Nat)] 102) _ hl2).trans hx2
  have hl3 := hlt_of hy1
  have hl4 := hlt_of hy2
  clear hF
  go_wp2_with fail
  refine (prSyntax_any i _).mono ?_
  rintro e w2 ⟨rfl, hb⟩
  have hbZ := hbW.trans (hb.mono hbW.size)
  have hz1 := (hb.block _ hl3).trans hy1
  have hz2 := (hb.block _ hl4).trans hy2
  have a0 := cell_hp hz1 0 _ rfl
  have e0 := free_hp hz1 0
  have a1 := cell_hp hz1 1 _ rfl
  have e1 := free_hp hz1 1
  have a2 := cell_hp hz1 2 _ rfl
  have e2 := free_hp hz1 2
  have d0 := cell_hp hz2 0 _ rfl
  have f0 := free_hp hz2 0
  have d1 := cell_hp hz2 1 _ rfl
  have f1 := free_hp hz2 1
  clear hb hz1 hz2 hy1 hy2 hx1 hx2 hb1 hbW k0
  go_wp2
  refine bodyPost_ret (v := .tuple #[.agg #[.int .i64 0, .int .i64 0, .string ⟨#[]⟩], .int .i64 0, .agg #[.int .i64 3, .int .i64 i]]) (by simp [results, Tryz.results31, go_sem, a0, a1, a2, d0, d1]) rfl ⟨HX.out, ?_⟩
  exact ((((hbZ.setCell (p := ⟨w.heap.size, 0, none⟩) (Nat.le_refl _) _).setCell (p := ⟨w.heap.size, 1, none⟩) (Nat.le_refl _) _).setCell (p := ⟨w.heap.size, 2, none⟩) (Nat.le_refl _) _).setCell (p := ⟨w.heap.size + 1, 0, none⟩) (Nat.le_succ _) _).setCell (p := ⟨w.heap.size + 1, 1, none⟩) (Nat.le_succ _) _
set_option maxRecDepth 100000 in
set_option maxHeartbeats 2000000 in
theorem prPlain_no {W0 : World} {R B g : Nat} {s : ByteArray} {tv : Value} {toks : List Tk} {op : List UInt8} (i : Nat) (w : World) (h : St W0 R B g s tv toks op w) (hs : s.size ≤ 3000) (hi : i < s.size) (fl : Bool) (hfl : (!op.isEmpty) = fl) (hbg : beginsB s i fl = false) :
    Calls Tryz.prog 35 #[.pointer (some ⟨B, 0, none⟩), .int .i64 i] w fun e w' => e = .returned (PrV (wrO i)) ∧ Below w.heap.size w w' := by
  have c0 := cell_hp h.row 0 _ rfl
  have hBl := hlt_of h.row
  have hBm : ¬ B = w.heap.size := by omega
  have hF := fun w2 (hb : Below w.heap.size w w2) => prFlow_any w2 (h.below hb) fl hfl
  have hL := fun w => plain_no s i fl w hi (by omega) (Lib.hid hbg)
  have HX := Lib.hid (show (Ending.returned (.tuple #[.agg #[.int .i64 0, .int .i64 0, .string ⟨#[]⟩], .int .i64 0, .agg #[.int .i64 3, .int .i64 i]]) : Ending) = .returned (PrV (wrO i)) from rfl)
  have hFq : ∀ n, Calls Tryz.prog 34 #[.pointer (some ⟨B, 0, none⟩)] (((w.alloc (.cells #[.int .i64 0, .int .i64 0, .string ⟨#[]⟩] 38)).alloc (.cells #[.int .i64 0, .int .i64 0] 27)).drewN n) fun e w' => e = .returned (.bool fl) ∧ w' = ((w.alloc (.cells #[.int .i64 0, .int .i64 0, .string ⟨#[]⟩] 38)).alloc (.cells #[.int .i64 0, .int .i64 0] 27)).drewN n := fun n => (hF _ (bel_drewN (((Below.refl _ _).alloc (Nat.le_refl _) _).alloc (by simp) _) n)).mono (fun _ _ h => ⟨h.1, h.2.symm⟩)
  have hLq := fun w => (hL w).mono (fun _ _ h => (⟨h.1, h.2.symm⟩ : _ ∧ _))
  clear hbg hfl h
  go_enter Tryz.func35, Tryz.ntmps35
  go_wp2
  go_quiet ((first | (go_at_call 34; exact Calls.quiet_of_same (hFq _)) | (go_at_call 59; exact Calls.quiet_of_same (hLq _))))
  obtain ⟨W2, hW2⟩ : ∃ W2, ((w.alloc (.cells #[.int .i64 0, .int .i64 0, .string ⟨#[]⟩] 38)).alloc (.cells #[.int .i64 0, .int .i64 0] 27)).drewN nq = W2 := ⟨_, rfl⟩
  have hbW : Below w.heap.size w W2 := by rw [← hW2]; exact bel_drewN (((Below.refl _ _).alloc (Nat.le_refl _) _).alloc (by simp) _) nq
  have hy1 : W2.heap[w.heap.size]? = some (.cells #[.int .i64 0, .int .i64 0, .string ⟨#[]⟩] 38) := by
    rw [← hW2]
    show ((w.alloc _).alloc _).heap[w.heap.size]? = _
    rw [Lib.alloc_old _ _ _ (by simp)]; exact heap_alloc_new w _
  have hy2 : W2.heap[w.heap.size + 1]? = some (.cells #[.int .i64 0, .int .i64 0] 27) := by
    rw [← hW2]
    show ((w.alloc _).alloc _).heap[w.heap.size + 1]? = _
    have := heap_alloc_new (w.alloc (.cells #[.int .i64 0, .int .i64 0, .string ⟨#[]⟩] 38)) (.cells #[.int .i64 0, .int .i64 0] 27)
    simpa using this
  have hyB : W2.cell? ⟨B, 0, none⟩ = some (.string s) := (hbW.cell (p := ⟨B, 0, none⟩) hBl).trans c0
  rw [hW2]
  clear hW2 hF hL hFq hLq c0
  have hl1 := hlt_of hy1
  have hl2 := hlt_of hy2
  go_wp2_with fail
  refine (prSyntax_any i _).mono ?_
  rintro e w2 ⟨rfl, hb⟩
  have hbZ := hbW.trans (hb.mono hbW.size)
  have hz1 := (hb.block _ hl1).trans hy1
  have hz2 := (hb.block _ hl2).trans hy2
  have a0 := cell_hp hz1 0 _ rfl
  have e0 := free_hp hz1 0
  have a1 := cell_hp hz1 1 _ rfl
  have e1 := free_hp hz1 1
  have a2 := cell_hp hz1 2 _ rfl
  have e2 := free_hp hz1 2
  have d0 := cell_hp hz2 0 _ rfl
  have f0 := free_hp hz2 0
  have d1 := cell_hp hz2 1 _ rfl
  have f1 := free_hp hz2 1
  clear hb hz1 hz2 hy1 hy2 hbW hyB
  go_wp2
  refine bodyPost_ret (v := .tuple #[.agg #[.int .i64 0, .int .i64 0, .string ⟨#[]⟩], .int .i64 0, .agg #[.int .i64 3, .int .i64 i]]) (by simp [results, Tryz.results35, go_sem, a0, a1, a2, d0, d1]) rfl ⟨HX.out, ?_⟩
  exact ((((hbZ.setCell (p := ⟨w.heap.size, 0, none⟩) (Nat.le_refl _) _).setCell (p := ⟨w.heap.size, 1, none⟩) (Nat.le_refl _) _).setCell (p := ⟨w.heap.size, 2, none⟩) (Nat.le_refl _) _).setCell (p := ⟨w.heap.size + 1, 0, none⟩) (Nat.le_succ _) _).setCell (p := ⟨w.heap.size + 1, 1, none⟩) (Nat.le_succ _) _
set_option maxRecDepth 100000 in
set_option maxHeartbeats 2000000 in
theorem prPlain_lg {W0 : World} {R B g : Nat} {s : ByteArray} {tv : Value} {toks : List Tk} {op : List UInt8} (i : Nat) (w : World) (h : St W0 R B g s tv toks op w) (hs : s.size ≤ 3000) (hi : i < s.size) (fl : Bool) (hfl : (!op.isEmpty) = fl) (hbg : beginsB s i fl = true) (hl : 1024 < plainE s fl i - i) :
    Calls Tryz.prog 35 #[.pointer (some ⟨B, 0, none⟩), .int .i64 i] w fun e w' => e = .returned (PrV (⟨0, 0, [], 0, [], 5, i⟩)) ∧ Below w.heap.size w w' := by
  have c0 := cell_hp h.row 0 _ rfl
  have hBl := hlt_of h.row
  have hBm : ¬ B = w.heap.size := by omega
  have hF := fun w2 (hb : Below w.heap.size w w2) => prFlow_any w2 (h.below hb) fl hfl
  have hL := fun w => plain_yes s i fl w hi (by omega) (Lib.hid hbg)
  have hbd := plainE_bd hi hbg
  obtain ⟨E, hE⟩ : ∃ E, plainE s fl i = E := ⟨_, rfl⟩
  have HX := Lib.hid (show (Ending.returned (.tuple #[.agg #[.int .i64 0, .int .i64 0, .string ⟨#[]⟩], .int .i64 0, .agg #[.int .i64 5, .int .i64 i]]) : Ending) = .returned (PrV (⟨0, 0, [], 0, [], 5, i⟩)) by
    rfl)
  rw [hE] at hL hbd hl
  obtain ⟨hE1, hE2⟩ := hbd
  have qg : decide ((1024 : Int) < (E : Int) - (i : Int)) = true := decide_eq_true (by omega)
  have hFq : ∀ n, Calls Tryz.prog 34 #[.pointer (some ⟨B, 0, none⟩)] (((w.alloc (.cells #[.int .i64 0, .int .i64 0, .string ⟨#[]⟩] 38)).alloc (.cells #[.int .i64 0, .int .i64 0] 27)).drewN n) fun e w' => e = .returned (.bool fl) ∧ w' = ((w.alloc (.cells #[.int .i64 0, .int .i64 0, .string ⟨#[]⟩] 38)).alloc (.cells #[.int .i64 0, .int .i64 0] 27)).drewN n := fun n => (hF _ (bel_drewN (((Below.refl _ _).alloc (Nat.le_refl _) _).alloc (by simp) _) n)).mono (fun _ _ h => ⟨h.1, h.2.symm⟩)
  have hLq := fun w => (hL w).mono (fun _ _ h => (⟨h.1, h.2.symm⟩ : _ ∧ _))
  clear hbg hfl h hE hl
  go_enter Tryz.func35, Tryz.ntmps35
  go_wp2
  go_quiet ((first | (go_at_call 34; exact Calls.quiet_of_same (hFq _)) | (go_at_call 59; exact Calls.quiet_of_same (hLq _))))
  obtain ⟨W2, hW2⟩ : ∃ W2, ((w.alloc (.cells #[.int .i64 0, .int .i64 0, .string ⟨#[]⟩] 38)).alloc (.cells #[.int .i64 0, .int .i64 0] 27)).drewN nq = W2 := ⟨_, rfl⟩
  have hbW : Below w.heap.size w W2 := by rw [← hW2]; exact bel_drewN (((Below.refl _ _).alloc (Nat.le_refl _) _).alloc (by simp) _) nq
  have hy1 : W2.heap[w.heap.size]? = some (.cells #[.int .i64 0, .int .i64 0, .string ⟨#[]⟩] 38) := by
    rw [← hW2]
    show ((w.alloc _).alloc _).heap[w.heap.size]? = _
    rw [Lib.alloc_old _ _ _ (by simp)]; exact heap_alloc_new w _
  have hy2 : W2.heap[w.heap.size + 1]? = some (.cells #[.int .i64 0, .int .i64 0] 27) := by
    rw [← hW2]
    show ((w.alloc _).alloc _).heap[w.heap.size + 1]? = _
    have := heap_alloc_new (w.alloc (.cells #[.int .i64 0, .int .i64 0, .string ⟨#[]⟩] 38)) (.cells #[.int .i64 0, .int .i64 0] 27)
    simpa using this
  have hyB : W2.cell? ⟨B, 0, none⟩ = some (.string s) := (hbW.cell (p := ⟨B, 0, none⟩) hBl).trans c0
  rw [hW2]
  clear hW2 hF hL hFq hLq c0
  have a0 := cell_hp hy1 0 _ rfl
  have e0 := free_hp hy1 0
  have a1 := cell_hp hy1 1 _ rfl
  have e1 := free_hp hy1 1
  have a2 := cell_hp hy1 2 _ rfl
  have e2 := free_hp hy1 2
  have d0 := cell_hp hy2 0 _ rfl
  have f0 := free_hp hy2 0
  have d1 := cell_hp hy2 1 _ rfl
  have f1 := free_hp hy2 1
  clear hy1 hy2
  go_wp2
  refine bodyPost_ret (v := .tuple #[.agg #[.int .i64 0, .int .i64 0, .string ⟨#[]⟩], .int .i64 0, .agg #[.int .i64 5, .int .i64 i]]) (by simp [results, Tryz.results35, go_sem, a0, a1, a2, d0, d1]) rfl ⟨HX.out, ?_⟩
  exact ((((hbW.setCell (p := ⟨w.heap.size, 0, none⟩) (Nat.le_refl _) _).setCell (p := ⟨w.heap.size, 1, none⟩) (Nat.le_refl _) _).setCell (p := ⟨w.heap.size, 2, none⟩) (Nat.le_refl _) _).setCell (p := ⟨w.heap.size + 1, 0, none⟩) (Nat.le_succ _) _).setCell (p := ⟨w.heap.size + 1, 1, none⟩) (Nat.le_succ _) _
set_option maxRecDepth 100000 in
set_option maxHeartbeats 2000000 in
theorem prPlain_ok {W0 : World} {R B g : Nat} {s : ByteArray} {tv : Value} {toks : List Tk} {op : List UInt8} (i : Nat) (w : World) (h : St W0 R B g s tv toks op w) (hs : s.size ≤ 3000) (hi : i < s.size) (fl : Bool) (hfl : (!op.isEmpty) = fl) (hbg : beginsB s i fl = true) (hl : ¬ 1024 < plainE s fl i - i) :
    Calls Tryz.prog 35 #[.pointer (some ⟨B, 0, none⟩), .int .i64 i] w fun e w' => e = .returned (PrV (⟨11, i, (s.extract i (plainE s fl i)).data.toList, plainE s fl i, op, 0, 0⟩)) ∧ Below w.heap.size w w' := by
  have c0 := cell_hp h.row 0 _ rfl
  have hBl := hlt_of h.row
  have hBm : ¬ B = w.heap.size := by omega
  have hF := fun w2 (hb : Below w.heap.size w w2) => prFlow_any w2 (h.below hb) fl hfl
  have hL := fun w => plain_yes s i fl w hi (by omega) (Lib.hid hbg)
  have hbd := plainE_bd hi hbg
  obtain ⟨E, hE⟩ : ∃ E, plainE s fl i = E := ⟨_, rfl⟩
  have HX := Lib.hid (show (Ending.returned (.tuple #[.agg #[.int .i64 11, .int .i64 0, .string (s.extract i E)], .int .i64 E, .agg #[.int .i64 0, .int .i64 0]]) : Ending) = .returned (PrV (⟨11, i, (s.extract i (plainE s fl i)).data.toList, plainE s fl i, op, 0, 0⟩)) by
    rw [hE]; unfold PrV; rw [if_pos rfl]; simp only [mk_self]; rfl)
  rw [hE] at hL hbd hl
  obtain ⟨hE1, hE2⟩ := hbd
  have qg : decide ((1024 : Int) < (E : Int) - (i : Int)) = false := decide_eq_false (by omega)
  have hFq : ∀ n, Calls Tryz.prog 34 #[.pointer (some ⟨B, 0, none⟩)] (((w.alloc (.cells #[.int .i64 0, .int .i64 0, .string ⟨#[]⟩] 38)).alloc (.cells #[.int .i64 0, .int .i64 0] 27)).drewN n) fun e w' => e = .returned (.bool fl) ∧ w' = ((w.alloc (.cells #[.int .i64 0, .int .i64 0, .string ⟨#[]⟩] 38)).alloc (.cells #[.int .i64 0, .int .i64 0] 27)).drewN n := fun n => (hF _ (bel_drewN (((Below.refl _ _).alloc (Nat.le_refl _) _).alloc (by simp) _) n)).mono (fun _ _ h => ⟨h.1, h.2.symm⟩)
  have hLq := fun w => (hL w).mono (fun _ _ h => (⟨h.1, h.2.symm⟩ : _ ∧ _))
  clear hbg hfl h hE hl
  go_enter Tryz.func35, Tryz.ntmps35
  go_wp2
  go_quiet ((first | (go_at_call 34; exact Calls.quiet_of_same (hFq _)) | (go_at_call 59; exact Calls.quiet_of_same (hLq _))))
  obtain ⟨W2, hW2⟩ : ∃ W2, ((w.alloc (.cells #[.int .i64 0, .int .i64 0, .string ⟨#[]⟩] 38)).alloc (.cells #[.int .i64 0, .int .i64 0] 27)).drewN nq = W2 := ⟨_, rfl⟩
  have hbW : Below w.heap.size w W2 := by rw [← hW2]; exact bel_drewN (((Below.refl _ _).alloc (Nat.le_refl _) _).alloc (by simp) _) nq
  have hy1 : W2.heap[w.heap.size]? = some (.cells #[.int .i64 0, .int .i64 0, .string ⟨#[]⟩] 38) := by
    rw [← hW2]
    show ((w.alloc _).alloc _).heap[w.heap.size]? = _
    rw [Lib.alloc_old _ _ _ (by simp)]; exact heap_alloc_new w _
  have hy2 : W2.heap[w.heap.size + 1]? = some (.cells #[.int .i64 0, .int .i64 0] 27) := by
    rw [← hW2]
    show ((w.alloc _).alloc _).heap[w.heap.size + 1]? = _
    have := heap_alloc_new (w.alloc (.cells #[.int .i64 0, .int .i64 0, .string ⟨#[]⟩] 38)) (.cells #[.int .i64 0, .int .i64 0] 27)
    simpa using this
  have hyB : W2.cell? ⟨B, 0, none⟩ = some (.string s) := (hbW.cell (p := ⟨B, 0, none⟩) hBl).trans c0
  rw [hW2]
  clear hW2 hF hL hFq hLq c0
  have a0 := cell_hp hy1 0 _ rfl
  have e0 := free_hp hy1 0
  have a1 := cell_hp hy1 1 _ rfl
  have e1 := free_hp hy1 1
  have a2 := cell_hp hy1 2 _ rfl
  have e2 := free_hp hy1 2
  have d0 := cell_hp hy2 0 _ rfl
  have f0 := free_hp hy2 0
  have d1 := cell_hp hy2 1 _ rfl
  have f1 := free_hp hy2 1
  clear hy1 hy2
  go_wp2
  refine bodyPost_ret (v := .tuple #[.agg #[.int .i64 11, .int .i64 0, .string (s.extract i E)], .int .i64 E, .agg #[.int .i64 0, .int .i64 0]]) (by simp [results, Tryz.results35, go_sem, a0, a1, a2, d0, d1]) rfl ⟨HX.out, ?_⟩
  exact ((((hbW.setCell (p := ⟨w.heap.size, 0, none⟩) (Nat.le_refl _) _).setCell (p := ⟨w.heap.size, 1, none⟩) (Nat.le_refl _) _).setCell (p := ⟨w.heap.size, 2, none⟩) (Nat.le_refl _) _).setCell (p := ⟨w.heap.size + 1, 0, none⟩) (Nat.le_succ _) _).setCell (p := ⟨w.heap.size + 1, 1, none⟩) (Nat.le_succ _) _
end Go.Proofs.YtnnnanemefcmdaaGreatDoor
namespace Go.Proofs.YtnnnanemefcmdaaGreatDoor
open Go.RowKit

theorem flO_bad {s : ByteArray} {i : Nat} {op : List UInt8} (hc : (flO s i op).c ≠ 0) : flO s i op = wrO i ∧ bt s i ≠ 91 ∧ bt s i ≠ 123 ∧ (op = [] ∨ (op ≠ [] ∧ bt s i ≠ 44 ∧ op.getLast?.map UInt8.toNat ≠ some (bt s i))) := by
  unfold flO at *
  by_cases h1 : bt s i = 91
  · rw [if_pos h1] at hc; exact absurd rfl hc
  rw [if_neg h1] at hc ⊢
  by_cases h2 : bt s i = 123
  · rw [if_pos h2] at hc; exact absurd rfl hc
  rw [if_neg h2] at hc ⊢
  by_cases h0 : op = []
  · rw [if_pos h0]; exact ⟨rfl, h1, h2, .inl h0⟩
  rw [if_neg h0] at hc ⊢
  by_cases h3 : bt s i = 44
  · rw [if_pos h3] at hc; exact absurd rfl hc
  rw [if_neg h3] at hc ⊢
  by_cases hd : op.getLast?.map UInt8.toNat = some (bt s i)
  · rw [if_neg (fun e => e hd)] at hc; exact absurd rfl hc
  · rw [if_pos hd]; exact ⟨rfl, h1, h2, .inr ⟨h0, h3, hd⟩⟩
theorem snoc_of {op : List UInt8} (h : op ≠ []) : ∃ r c, op = r ++ [c] ∧ op.getLast? = some c := ⟨op.dropLast, op.getLast h, (List.dropLast_concat_getLast h).symm, List.getLast?_eq_some_getLast h⟩
theorem prSign_er {W0 : World} {R B g : Nat} {s : ByteArray} {tv : Value} {toks : List Tk} {op : List UInt8} (i : Nat) (w : World) (h : St W0 R B g s tv toks op w) (hs : s.size ≤ 3000) (hi : i < s.size) {x : On} (hx : flO s i op = x) (hc : x.c ≠ 0) :
    Calls Tryz.prog 27 #[.pointer (some ⟨B, 0, none⟩), .int .i64 i] w fun e w' => e = .returned (.tuple #[.agg #[.int .i64 0, .int .i64 0, .string ⟨#[]⟩], .agg #[.int .i64 (x.c : Nat), .int .i64 (x.p : Nat)]]) ∧ Below w.heap.size w w' := by
  subst hx
  obtain ⟨he, h1, h2, h3⟩ := flO_bad hc
  rw [he]
  rcases h3 with rfl | ⟨h0, h44, hd⟩
  · exact prSign_none i w h hs hi h1 h2
  · obtain ⟨r, c, rfl, hl⟩ := snoc_of h0
    exact prSign_cbad r c i w h hs hi h1 h2 h44 (fun e => hd (by rw [hl]; exact congrArg some e))
theorem prSign_ok {W0 : World} {R B g : Nat} {s : ByteArray} {tv : Value} {toks : List Tk} {op : List UInt8} (i : Nat) (w : World) (h : St W0 R B g s tv toks op w) (hs : s.size ≤ 3000) (hi : i < s.size) (hr : op.length < s.size) (hf : flowB (bt s i) = true) {x : On} (hx : flO s i op = x) (hc : x.c = 0) :
    Calls Tryz.prog 27 #[.pointer (some ⟨B, 0, none⟩), .int .i64 i] w fun e w' => e = .returned (.tuple #[.agg #[.int .i64 (x.k : Nat), .int .i64 0, .string ⟨#[]⟩], .agg #[.int .i64 0, .int .i64 0]]) ∧ St W0 R B g s tv toks x.o w' ∧ Kept B g w w' := by
  subst hx
  have hcs := flow_cases hf (bt_lt s i)
  by_cases h1 : bt s i = 91
  · have e : flO s i op = ⟨4, i, [], i + 1, op ++ [93], 0, 0⟩ := by unfold flO; rw [if_pos h1]
    rw [e]
    exact prSign_91 i w h hs hi h1 hr
  by_cases h2 : bt s i = 123
  · have e : flO s i op = ⟨6, i, [], i + 1, op ++ [125], 0, 0⟩ := by unfold flO; rw [if_neg h1, if_pos h2]
    rw [e]
    exact prSign_123 i w h hs hi h2 hr
  by_cases h0 : op = []
  · have e : flO s i op = wrO i := by unfold flO; rw [if_neg h1, if_neg h2, if_pos h0]
    rw [e] at hc; cases hc
  by_cases h3 : bt s i = 44
  · have e : flO s i op = ⟨3, i, [], i + 1, op, 0, 0⟩ := by unfold flO; rw [if_neg h1, if_neg h2, if_neg h0, if_pos h3]
    rw [e]
    cases op with
    | nil => exact absurd rfl h0
    | cons b o =>
      refine (prSign_comma b o i w h hs hi h3).mono ?_
      rintro e w' ⟨rfl, hb⟩
      exact ⟨rfl, h.below hb, Kept.of_below hb⟩
  obtain ⟨r, c, rfl, hl⟩ := snoc_of h0
  by_cases hd : c.toNat = bt s i
  · have hlm : (r ++ [c]).getLast?.map UInt8.toNat = some (bt s i) := by rw [hl, ← hd]; rfl
    have e : flO s i (r ++ [c]) = ⟨if bt s i = 125 then 7 else 5, i, [], i + 1, (r ++ [c]).dropLast, 0, 0⟩ := by
      unfold flO; rw [if_neg h1, if_neg h2, if_neg h0, if_neg h3, if_neg (fun e => e hlm)]
    rw [e, List.dropLast_concat]
    by_cases h5 : bt s i = 125
    · rw [if_pos h5]
      exact prSign_cmp r c i w h hs hi h5 hd
    · rw [if_neg h5]
      exact prSign_csq r c i w h hs hi (by omega) hd
  · have e : flO s i (r ++ [c]) = wrO i := by
      unfold flO; rw [if_neg h1, if_neg h2, if_neg h0, if_neg h3, if_pos (by rw [hl]; intro e; exact hd (Option.some.inj e))]
    rw [e] at hc; cases hc
end Go.Proofs.YtnnnanemefcmdaaGreatDoor
namespace Go.Proofs.YtnnnanemefcmdaaGreatDoor
open Go.RowKit

/-- What is stored of a token: nothing of it, if something is wrong; no fault, if nothing is. -/
def nm (x : On) : On := if x.c = 0 then ⟨x.k, 0, x.t, x.n, x.o, 0, 0⟩ else ⟨0, 0, [], 0, [], x.c, x.p⟩
def TupV (y : On) : Value := .tuple #[.agg #[.int .i64 (y.k : Nat), .int .i64 0, .string ⟨y.t.toArray⟩], .int .i64 (y.n : Nat), .agg #[.int .i64 (y.c : Nat), .int .i64 (y.p : Nat)]]
theorem PrV_nm (x : On) : PrV x = TupV (nm x) := by
  unfold PrV nm
  split <;> rfl
def plO (s : ByteArray) (i : Nat) (op : List UInt8) : On :=
  if beginsB s i (!op.isEmpty) = false then wrO i else if 1024 < plainE s (!op.isEmpty) i - i then ⟨0, 0, [], 0, [], 5, i⟩ else ⟨11, i, (s.extract i (plainE s (!op.isEmpty) i)).data.toList, plainE s (!op.isEmpty) i, op, 0, 0⟩
def hdO (s : ByteArray) (i : Nat) (op : List UInt8) : On := if op ≠ [] then wrO i else ⟨13, i, (s.extract i (hdr s i).2.2).data.toList, (hdr s i).2.2, [], 0, 0⟩
def quO (i : Nat) (op : List UInt8) (q : Qt) : On := ⟨12, i, q.1, q.2.1, op, q.2.2.1, q.2.2.2⟩
theorem rdO_sq {s : ByteArray} {i : Nat} {op : List UInt8} {last : Nat} (h : bt s i = 39) : rdO s i op last = quO i op (sglQ s i) := by unfold rdO; rw [if_pos h]; rfl
theorem rdO_dq {s : ByteArray} {i : Nat} {op : List UInt8} {last : Nat} (h : bt s i = 34) : rdO s i op last = quO i op (dblQ s i) := by unfold rdO; rw [if_neg (by omega), if_pos h]; rfl
theorem rdO_flow {s : ByteArray} {i : Nat} {op : List UInt8} {last : Nat} (h : flowB (bt s i) = true) : rdO s i op last = flO s i op := by
  have h39 : bt s i ≠ 39 := fun e => by rw [e] at h; revert h; decide
  have h34 : bt s i ≠ 34 := fun e => by rw [e] at h; revert h; decide
  unfold rdO reO; rw [if_neg h39, if_neg h34, if_pos h]
theorem rdO_amp {s : ByteArray} {i : Nat} {op : List UInt8} {last : Nat} (h : bt s i = 38) : rdO s i op last = naO s i 8 op [] := by
  unfold rdO reO; rw [if_neg (by omega), if_neg (by omega), if_neg (by rw [h]; decide), if_pos h]
theorem rdO_star {s : ByteArray} {i : Nat} {op : List UInt8} {last : Nat} (h : bt s i = 42) : rdO s i op last = naO s i 9 op [] := by
  unfold rdO reO; rw [if_neg (by omega), if_neg (by omega), if_neg (by rw [h]; decide), if_neg (by omega), if_pos h]
theorem rdO_bang {s : ByteArray} {i : Nat} {op : List UInt8} {last : Nat} (h : bt s i = 33) : rdO s i op last = naO s i 10 op [33] := by
  unfold rdO reO; rw [if_neg (by omega), if_neg (by omega), if_neg (by rw [h]; decide), if_neg (by omega), if_neg (by omega), if_pos h]
theorem rdO_head {s : ByteArray} {i : Nat} {op : List UInt8} {last : Nat} (h : bt s i = 124) : rdO s i op last = hdO s i op := by
  unfold rdO reO hdO; rw [if_neg (by omega), if_neg (by omega), if_neg (by rw [h]; decide), if_neg (by omega), if_neg (by omega), if_neg (by omega), if_pos h]
theorem rdO_colon {s : ByteArray} {i : Nat} {op : List UInt8} {last : Nat} (h : bt s i = 58) (hp : partsB s i (!op.isEmpty) = true) : rdO s i op last = ⟨2, i, [], i + 1, op, 0, 0⟩ := by
  unfold rdO reO; rw [if_neg (by omega), if_neg (by omega), if_neg (by rw [h]; decide), if_neg (by omega), if_neg (by omega), if_neg (by omega), if_neg (by omega), if_pos hp]
theorem parts_no {s : ByteArray} {i : Nat} {fl : Bool} (h : bt s i ≠ 58) : partsB s i fl = false := by unfold partsB; rw [decide_eq_false h]; simp
theorem rdO_dash {s : ByteArray} {i : Nat} {last : Nat} (h : bt s i = 45) (h2 : i + 1 = s.size ∨ bt s (i + 1) = 32) (hl : ¬ 1 < last) : rdO s i [] last = ⟨1, i, [], i + 1, [], 0, 0⟩ := by
  unfold rdO reO; rw [if_neg (by omega), if_neg (by omega), if_neg (by rw [h]; decide), if_neg (by omega), if_neg (by omega), if_neg (by omega), if_neg (by omega), if_neg (by rw [parts_no (by omega)]; simp), if_pos ⟨h, rfl, h2⟩, if_neg hl]
theorem rdO_plain {s : ByteArray} {i : Nat} {op : List UInt8} {last : Nat} (hf : flowB (bt s i) = false) (n38 : bt s i ≠ 38) (n42 : bt s i ≠ 42) (n33 : bt s i ≠ 33) (n124 : bt s i ≠ 124) (n39 : bt s i ≠ 39) (n34 : bt s i ≠ 34) (hp : partsB s i (!op.isEmpty) = false) (hd : ¬ (bt s i = 45 ∧ op = [] ∧ (i + 1 = s.size ∨ bt s (i + 1) = 32))) : rdO s i op last = plO s i op := by
  unfold rdO reO plO; rw [if_neg n39, if_neg n34, if_neg (by rw [hf]; simp), if_neg n38, if_neg n42, if_neg n33, if_neg n124, if_neg (by rw [hp]; simp), if_neg hd]
/-- A dash with a blank or the end behind it begins no plain text. -/
theorem dash_begins {s : ByteArray} {i : Nat} {fl : Bool} (h : bt s i = 45) (h2 : i + 1 = s.size ∨ bt s (i + 1) = 32) : beginsB s i fl = false := by
  unfold beginsB
  rw [if_neg (by omega), if_pos (.inl h)]
  rcases h2 with h2 | h2
  · rw [decide_eq_false (by omega)]; rfl
  · rw [show cutsB (bt s (i + 1)) fl = true by rw [h2]; cases fl <;> decide]; simp
theorem rdO_dashw {s : ByteArray} {i : Nat} {op : List UInt8} {last : Nat} (h : bt s i = 45) (h2 : i + 1 = s.size ∨ bt s (i + 1) = 32) (hl : 1 < last) : rdO s i op last = plO s i op := by
  have hw : plO s i op = wrO i := by unfold plO; rw [if_pos (dash_begins h h2)]
  by_cases h0 : op = []
  · rw [hw]
    unfold rdO reO; rw [if_neg (by omega), if_neg (by omega), if_neg (by rw [h]; decide), if_neg (by omega), if_neg (by omega), if_neg (by omega), if_neg (by omega), if_neg (by rw [parts_no (by omega)]; simp), if_pos ⟨h, h0, h2⟩, if_pos hl]
  · exact rdO_plain (by rw [h]; decide) (by omega) (by omega) (by omega) (by omega) (by omega) (by omega) (parts_no (by omega)) (fun e => h0 e.2.1)
theorem rdO_hash {s : ByteArray} {i : Nat} {op : List UInt8} {last : Nat} (h : bt s i = 35) : rdO s i op last = wrO i := by
  rw [rdO_plain (by rw [h]; decide) (by omega) (by omega) (by omega) (by omega) (by omega) (by omega) (parts_no (by omega)) (fun e => by omega)]
  unfold plO
  rw [if_pos]
  unfold beginsB
  rw [if_neg (by omega), if_neg (by omega), h]
  decide
/-- What the switch leaves. -/
structure Mid (W0 : World) (R B g : Nat) (s : ByteArray) (tv : Value) (toks : List Tk) (op : List UInt8) (T : Nat) (x : On) (v : Value) (w : World) : Prop where
  nx : v = .int .i64 ((nm x).n : Nat) ∨ x.c ≠ 0
  tk : w.heap[T]? = some (.cells #[.int .i64 ((nm x).k : Nat), .int .i64 0, .string ⟨(nm x).t.toArray⟩] 38)
  fa : w.heap[T + 1]? = some (.cells #[.int .i64 ((nm x).c : Nat), .int .i64 ((nm x).p : Nat)] 27)
  st : St W0 R B g s tv toks (if x.c = 0 then x.o else op) w
theorem heap5 {w : World} {T : Nat} {a0 a1 a2 b0 b1 c0 c1 c2 d0 d1 : Value} {t u : TypeId} (h1 : w.heap[T]? = some (.cells #[a0, a1, a2] t)) (h2 : w.heap[T + 1]? = some (.cells #[b0, b1] u)) :
    (((((w.setCell ⟨T, 0, none⟩ c0).setCell ⟨T, 1, none⟩ c1).setCell ⟨T, 2, none⟩ c2).setCell ⟨T + 1, 0, none⟩ d0).setCell ⟨T + 1, 1, none⟩ d1).heap[T]? = some (.cells #[c0, c1, c2] t) ∧
    (((((w.setCell ⟨T, 0, none⟩ c0).setCell ⟨T, 1, none⟩ c1).setCell ⟨T, 2, none⟩ c2).setCell ⟨T + 1, 0, none⟩ d0).setCell ⟨T + 1, 1, none⟩ d1).heap[T + 1]? = some (.cells #[d0, d1] u) := by
  constructor
  · rw [Below.heap_setCell _ _ _ _ (show T ≠ T + 1 by omega), Below.heap_setCell _ _ _ _ (show T ≠ T + 1 by omega)]
    have y0 := heap_setCell_same w T 0 _ _ c0 h1
    have y1 := heap_setCell_same _ T 1 _ _ c1 y0
    exact heap_setCell_same _ T 2 _ _ c2 y1
  · have z2 : (((w.setCell ⟨T, 0, none⟩ c0).setCell ⟨T, 1, none⟩ c1).setCell ⟨T, 2, none⟩ c2).heap[T + 1]? = some (.cells #[b0, b1] u) := by
      rw [Below.heap_setCell _ _ _ _ (show T + 1 ≠ T by omega), Below.heap_setCell _ _ _ _ (show T + 1 ≠ T by omega), Below.heap_setCell _ _ _ _ (show T + 1 ≠ T by omega)]; exact h2
    have y0 := heap_setCell_same _ (T + 1) 0 _ _ d0 z2
    exact heap_setCell_same _ (T + 1) 1 _ _ d1 y0
theorem mid_of {W0 : World} {R B g : Nat} {s : ByteArray} {tv : Value} {toks : List Tk} {op : List UInt8} {T : Nat} {x : On} {w : World} (h : St W0 R B g s tv toks (if x.c = 0 then x.o else op) w) (hl : Lows W0 R B g tv T) (h1 : w.heap[T]? = some (.cells #[.int .i64 0, .int .i64 0, .string ⟨#[]⟩] 38)) (h2 : w.heap[T + 1]? = some (.cells #[.int .i64 0, .int .i64 0] 27)) :
    Mid W0 R B g s tv toks op T x (.int .i64 ((nm x).n : Nat)) (((((w.setCell ⟨T, 0, none⟩ (.int .i64 ((nm x).k : Nat))).setCell ⟨T, 1, none⟩ (.int .i64 0)).setCell ⟨T, 2, none⟩ (.string ⟨(nm x).t.toArray⟩)).setCell ⟨T + 1, 0, none⟩ (.int .i64 ((nm x).c : Nat))).setCell ⟨T + 1, 1, none⟩ (.int .i64 ((nm x).p : Nat))) :=
  ⟨.inl rfl, (heap5 h1 h2).1, (heap5 h1 h2).2, ((((h.set hl (Nat.le_refl _) 0 _).set hl (Nat.le_refl _) 1 _).set hl (Nat.le_refl _) 2 _).set hl (Nat.le_succ _) 0 _).set hl (Nat.le_succ _) 1 _⟩
theorem prPlain_any {W0 : World} {R B g : Nat} {s : ByteArray} {tv : Value} {toks : List Tk} {op : List UInt8} (i : Nat) (w : World) (h : St W0 R B g s tv toks op w) (hs : s.size ≤ 3000) (hi : i < s.size) :
    Calls Tryz.prog 35 #[.pointer (some ⟨B, 0, none⟩), .int .i64 i] w fun e w' => e = .returned (TupV (nm (plO s i op))) ∧ Below w.heap.size w w' := by
  rw [← PrV_nm]
  unfold plO
  by_cases hb : beginsB s i (!op.isEmpty) = false
  · rw [if_pos hb]; exact prPlain_no i w h hs hi _ rfl hb
  rw [if_neg hb]
  have hb : beginsB s i (!op.isEmpty) = true := by simpa using hb
  by_cases hl : 1024 < plainE s (!op.isEmpty) i - i
  · rw [if_pos hl]; exact prPlain_lg i w h hs hi _ rfl hb hl
  · rw [if_neg hl]; exact prPlain_ok i w h hs hi _ rfl hb hl
theorem prHeader_any {W0 : World} {R B g : Nat} {s : ByteArray} {tv : Value} {toks : List Tk} {op : List UInt8} (i : Nat) (w : World) (h : St W0 R B g s tv toks op w) (hs : s.size ≤ 3000) (hi : i < s.size) (hc : bt s i = 124) :
    Calls Tryz.prog 31 #[.pointer (some ⟨B, 0, none⟩), .int .i64 i] w fun e w' => e = .returned (TupV (nm (hdO s i op))) ∧ Below w.heap.size w w' := by
  rw [← PrV_nm]
  unfold hdO
  cases op with
  | nil => rw [if_neg (by simp)]; exact prHeader_0 i w h hs hi hc
  | cons b o => rw [if_pos (by simp)]; exact prHeader_1 b o i w h hs hi hc
theorem prNamed_any {W0 : World} {R B g : Nat} {s : ByteArray} {tv : Value} {toks : List Tk} {op : List UInt8} (i : Nat) (w : World) (h : St W0 R B g s tv toks op w) (hs : s.size ≤ 3000) (hi : i < s.size) (hc : bt s i = 38 ∨ bt s i = 42 ∨ bt s i = 33) :
    Calls Tryz.prog 28 #[.pointer (some ⟨B, 0, none⟩), .int .i64 i] w fun e w' => e = .returned (TupV (nm (rdO s i op 0))) ∧ Below w.heap.size w w' := by
  rw [← PrV_nm]
  rcases hc with hc | hc | hc
  · rw [rdO_amp hc]; exact prNamed_amp i w h hs hi hc
  · rw [rdO_star hc]; exact prNamed_star i w h hs hi hc
  · rw [rdO_bang hc]; exact prNamed_bang i w h hs hi hc
def qT (q : Qt) : Value := .tuple #[.string ⟨q.1.toArray⟩, .int .i64 (q.2.1 : Nat), .agg #[.int .i64 (q.2.2.1 : Nat), .int .i64 (q.2.2.2 : Nat)]]
theorem gotT_Q (t : List UInt8) (a n : Nat) : gotT t a n = qT (gotQ t a n) := by
  unfold gotT gotQ
  split <;> rfl
theorem sglT_Q (s : ByteArray) (a : Nat) : sglT s a = qT (sglQ s a) := by
  unfold sglT sglQ
  cases rdS s s.size (a + 1) with
  | none => rfl
  | some p => exact gotT_Q p.1 a p.2
theorem dblT_Q (s : ByteArray) (a : Nat) : dblT s a = qT (dblQ s a) := by
  unfold dblT dblQ
  cases rdD s s.size (a + 1) with
  | done t n => exact gotT_Q t a n
  | bad i => rfl
  | cut => rfl
theorem gotQ_p {t : List UInt8} {a n : Nat} (h : (gotQ t a n).2.2.1 = 0) : (gotQ t a n).2.2.2 = 0 := by
  unfold gotQ at *
  split
  · rename_i hg; rw [if_pos hg] at h; cases h
  · rfl
theorem sglQ_p {s : ByteArray} {i : Nat} (h : (sglQ s i).2.2.1 = 0) : (sglQ s i).2.2.2 = 0 := by
  unfold sglQ at *
  cases hr : rdS s s.size (i + 1) with
  | none => rw [hr] at h; cases h
  | some p => rw [hr] at h; exact gotQ_p h
theorem dblQ_p {s : ByteArray} {i : Nat} (h : (dblQ s i).2.2.1 = 0) : (dblQ s i).2.2.2 = 0 := by
  unfold dblQ at *
  cases hr : rdD s s.size (i + 1) with
  | cut => rw [hr] at h; cases h
  | bad j => rw [hr] at h; cases h
  | done t n => rw [hr] at h; exact gotQ_p h
theorem prQuoted_any (i : Nat) (op : List UInt8) (q : Qt) (w : World) (hp : q.2.2.1 = 0 → q.2.2.2 = 0) :
    Calls Tryz.prog 29 #[.string ⟨q.1.toArray⟩, .int .i64 (q.2.1 : Nat), .agg #[.int .i64 (q.2.2.1 : Nat), .int .i64 (q.2.2.2 : Nat)]] w fun e w' => e = .returned (TupV (nm (quO i op q))) ∧ Below w.heap.size w w' := by
  rw [← PrV_nm]
  unfold PrV quO
  by_cases hc : q.2.2.1 = 0
  · rw [if_pos hc, hc, hp hc]
    exact prQuoted_ok _ _ w
  · rw [if_neg hc]
    exact prQuoted_er _ _ _ _ hc w
/-- sign, whether something is wrong or not. -/
theorem prSign_any {W0 : World} {R B g : Nat} {s : ByteArray} {tv : Value} {toks : List Tk} {op : List UInt8} (i : Nat) (w : World) (h : St W0 R B g s tv toks op w) (hs : s.size ≤ 3000) (hi : i < s.size) (hr : op.length < s.size) (hf : flowB (bt s i) = true) :
    Calls Tryz.prog 27 #[.pointer (some ⟨B, 0, none⟩), .int .i64 i] w fun e w' => e = .returned (.tuple #[.agg #[.int .i64 ((nm (flO s i op)).k : Nat), .int .i64 0, .string ⟨#[]⟩], .agg #[.int .i64 ((nm (flO s i op)).c : Nat), .int .i64 ((nm (flO s i op)).p : Nat)]]) ∧ St W0 R B g s tv toks (if (flO s i op).c = 0 then (flO s i op).o else op) w' ∧ Kept B g w w' := by
  by_cases hc : (flO s i op).c = 0
  · refine (prSign_ok i w h hs hi hr hf rfl hc).mono ?_
    rintro e w' ⟨rfl, h1, h2⟩
    unfold nm
    rw [if_pos hc, if_pos hc]
    exact ⟨rfl, h1, h2⟩
  · refine (prSign_er i w h hs hi rfl hc).mono ?_
    rintro e w' ⟨rfl, h1⟩
    unfold nm
    rw [if_neg hc, if_neg hc]
    exact ⟨rfl, h.below h1, Kept.of_below h1⟩
/-- What may stand behind a token. -/
def endB (s : ByteArray) (k n : Nat) (op : List UInt8) : Bool := !decide (8 ≤ k ∧ k ≠ 11 ∨ k = 5 ∨ k = 7) || tiB s n op
theorem prEnds_any {W0 : World} {R B g : Nat} {s : ByteArray} {tv : Value} {toks : List Tk} {op : List UInt8} (k : Nat) (txt : ByteArray) (n : Nat) (w : World) (h : St W0 R B g s tv toks op w) (hs : s.size ≤ 3000) (hk : 1 ≤ k ∧ k ≤ 13) (hn : n ≤ s.size) :
    Calls Tryz.prog 36 #[.pointer (some ⟨B, 0, none⟩), .agg #[.int .i64 (k : Nat), .int .i64 0, .string txt], .int .i64 n] w fun e w' => e = .returned (.bool (endB s k n op)) ∧ Below w.heap.size w w' := by
  by_cases ha : 8 ≤ k ∧ k ≠ 11 ∨ k = 5 ∨ k = 7
  · rw [show endB s k n op = tiB s n op by unfold endB; rw [decide_eq_true ha]; rfl]
    exact prEnds_ask k txt n w h hs (by omega) hn
  · rw [show endB s k n op = true by unfold endB; rw [decide_eq_false ha]; rfl]
    have hk2 : k = 1 ∨ k = 2 ∨ k = 3 ∨ k = 4 ∨ k = 6 ∨ k = 11 := by omega
    rcases hk2 with rfl | rfl | rfl | rfl | rfl | rfl
    · exact prEnds_1 B txt n w
    · exact prEnds_2 B txt n w
    · exact prEnds_3 B txt n w
    · exact prEnds_4 B txt n w
    · exact prEnds_6 B txt n w
    · exact prEnds_11 B txt n w
theorem flO_n {s : ByteArray} {i : Nat} {op : List UInt8} (hc : (flO s i op).c = 0) : (flO s i op).n = i + 1 := by
  unfold flO at *
  by_cases h1 : bt s i = 91
  · rw [if_pos h1]
  rw [if_neg h1] at hc ⊢
  by_cases h2 : bt s i = 123
  · rw [if_pos h2]
  rw [if_neg h2] at hc ⊢
  by_cases h0 : op = []
  · rw [if_pos h0] at hc; cases hc
  rw [if_neg h0] at hc ⊢
  by_cases h3 : bt s i = 44
  · rw [if_pos h3]
  rw [if_neg h3] at hc ⊢
  by_cases hd : op.getLast?.map UInt8.toNat = some (bt s i)
  · rw [if_neg (fun e => e hd)]
  · rw [if_pos hd] at hc; cases hc
theorem flO_t (s : ByteArray) (i : Nat) (op : List UInt8) : (flO s i op).t = [] := by
  unfold flO
  repeat' split
  all_goals rfl
theorem nm_t {x : On} (h : x.t = []) : (nm x).t = [] := by
  unfold nm
  split
  · exact h
  · rfl
theorem prSign_any2 {W0 : World} {R B g : Nat} {s : ByteArray} {tv : Value} {toks : List Tk} {op : List UInt8} (i : Nat) (w : World) (h : St W0 R B g s tv toks op w) (hs : s.size ≤ 3000) (hi : i < s.size) (hr : op.length < s.size) (hf : flowB (bt s i) = true) :
    Calls Tryz.prog 27 #[.pointer (some ⟨B, 0, none⟩), .int .i64 i] w fun e w' => e = .returned (.tuple #[.agg #[.int .i64 ((nm (flO s i op)).k : Nat), .int .i64 0, .string ⟨(nm (flO s i op)).t.toArray⟩], .agg #[.int .i64 ((nm (flO s i op)).c : Nat), .int .i64 ((nm (flO s i op)).p : Nat)]]) ∧ St W0 R B g s tv toks (if (flO s i op).c = 0 then (flO s i op).o else op) w' ∧ Kept B g w w' := by
  rw [nm_t (flO_t s i op)]
  exact prSign_any i w h hs hi hr hf
theorem plO_op (s : ByteArray) (i : Nat) (op : List UInt8) : (if (plO s i op).c = 0 then (plO s i op).o else op) = op := by
  unfold plO
  split
  · rfl
  · split <;> rfl
theorem naO_op (s : ByteArray) (i k : Nat) (op ah : List UInt8) : (if (naO s i k op ah).c = 0 then (naO s i k op ah).o else op) = op := by
  unfold naO
  split <;> rfl
theorem dash_or {s : ByteArray} {i l : Nat} (hi : i < s.size) (h : ¬ ((i + 1 = s.size ∨ bt s (i + 1) = 32) ∧ ¬ 1 < l)) : (i + 1 < s.size ∧ bt s (i + 1) ≠ 32) ∨ 1 < l := by
  by_cases hl : 1 < l
  · exact .inr hl
  · left
    by_cases h1 : i + 1 = s.size
    · exact absurd ⟨.inl h1, hl⟩ h
    · by_cases h2 : bt s (i + 1) = 32
      · exact absurd ⟨.inr h2, hl⟩ h
      · exact ⟨by omega, h2⟩
theorem rdO_nodash {s : ByteArray} {i : Nat} {op : List UInt8} {last : Nat} (hf : flowB (bt s i) = false) (hc : bt s i = 45) (_hi : i < s.size) (h : ¬ ((i + 1 = s.size ∨ bt s (i + 1) = 32) ∧ ¬ 1 < last)) : rdO s i op last = plO s i op := by
  by_cases h2 : i + 1 = s.size ∨ bt s (i + 1) = 32
  · exact rdO_dashw hc h2 (Decidable.byContradiction (fun hl => h ⟨h2, hl⟩))
  · exact rdO_plain hf (by omega) (by omega) (by omega) (by omega) (by omega) (by omega) (parts_no (by omega)) (fun e => h2 e.2.2)
theorem lastK_app (r : List Tk) (x : Tk) : lastK (r ++ [x]) = x.1 := by unfold lastK; simp
theorem prDash_true {W0 : World} {R B g : Nat} {s : ByteArray} {tv : Value} {toks : List Tk} {op : List UInt8} {i : Nat} (w : World) (h : St W0 R B g s tv toks op w) (hs : s.size ≤ 3000) (hi : i < s.size) (h2 : i + 1 = s.size ∨ bt s (i + 1) = 32) (hl : lastK toks ≤ 1) (hk : ∀ x ∈ toks, 1 ≤ x.1) :
    Calls Tryz.prog 32 #[.pointer (some ⟨B, 0, none⟩), .int .i64 i] w fun e w' => e = .returned (.bool true) ∧ w = w' := by
  rcases List.eq_nil_or_concat toks with rfl | ⟨r, x, rfl⟩
  · by_cases he : i + 1 = s.size
    · exact prDash_e_nil i w h hs hi he
    · exact prDash_b_nil i w h hs hi (by omega) (h2.resolve_left he)
  · rw [List.concat_eq_append] at h hl hk
    have h1 : x.1 = 1 := by rw [lastK_app] at hl; have := hk x (by simp); omega
    by_cases he : i + 1 = s.size
    · exact prDash_e_dash i w h hs hi he h1
    · exact prDash_b_dash i w h hs hi (by omega) (h2.resolve_left he) h1
theorem prDash_false {W0 : World} {R B g : Nat} {s : ByteArray} {tv : Value} {toks : List Tk} {op : List UInt8} {i : Nat} (w : World) (h : St W0 R B g s tv toks op w) (hs : s.size ≤ 3000) (hi : i < s.size) (h2 : (i + 1 < s.size ∧ bt s (i + 1) ≠ 32) ∨ 1 < lastK toks) (_hk : ∀ x ∈ toks, 1 ≤ x.1) :
    Calls Tryz.prog 32 #[.pointer (some ⟨B, 0, none⟩), .int .i64 i] w fun e w' => e = .returned (.bool false) ∧ w = w' := by
  by_cases hn : i + 1 < s.size ∧ bt s (i + 1) ≠ 32
  · exact prDash_no_any i w h hs hi hn.1 hn.2
  · have hl := h2.resolve_left hn
    rcases List.eq_nil_or_concat toks with rfl | ⟨r, x, rfl⟩
    · exact absurd hl (by decide)
    · rw [List.concat_eq_append] at h hl
      rw [lastK_app] at hl
      by_cases he : i + 1 = s.size
      · exact prDash_e_oth i w h hs hi he (by omega)
      · have h32 : bt s (i + 1) = 32 := Decidable.byContradiction (fun e => hn ⟨by omega, e⟩)
        exact prDash_b_oth i w h hs hi (by omega) h32 (by omega)
theorem mid_kind {W0 : World} {R B g : Nat} {s : ByteArray} {tv : Value} {toks : List Tk} {op : List UInt8} {T : Nat} {w : World} (h : St W0 R B g s tv toks op w) (hl : Lows W0 R B g tv T) (h1 : w.heap[T]? = some (.cells #[.int .i64 0, .int .i64 0, .string ⟨#[]⟩] 38)) (h2 : w.heap[T + 1]? = some (.cells #[.int .i64 0, .int .i64 0] 27)) (k i : Nat) :
    Mid W0 R B g s tv toks op T ⟨k, i, [], i + 1, op, 0, 0⟩ (.int .i64 ((i : Int) + 1)) (w.setCell ⟨T, 0, none⟩ (.int .i64 (k : Nat))) := by
  refine ⟨.inl rfl, heap_setCell_same w T 0 _ _ (.int .i64 (k : Nat)) h1, ?_, h.set hl (Nat.le_refl _) 0 _⟩
  rw [Below.heap_setCell _ _ _ _ (show T + 1 ≠ T by omega)]; exact h2
end Go.Proofs.YtnnnanemefcmdaaGreatDoor
namespace Go.Proofs.YtnnnanemefcmdaaGreatDoor
open Go.RowKit

theorem refRead_any (s : ByteArray) (i : Nat) (op : List UInt8) (last : Nat) (w : World) (hs : s.size ≤ 3000) (ho : op.length ≤ 4000) (h : i < s.size) :
    Calls Tryz.prog 17 #[.string s, .int .i64 i, .string ⟨op.toArray⟩, .int .i64 last] w fun e w' => e = .returned (OnV (rdO s i op last)) ∧ Below w.heap.size w w' := by
  by_cases n39 : bt s i = 39
  · exact refRead_sq s i op last w hs h n39
  by_cases n34 : bt s i = 34
  · exact refRead_dq s i op last w hs h n34
  by_cases hf : flowB (bt s i) = true
  · exact refRead_flow s i op last w hs ho h hf
  have hf : flowB (bt s i) = false := by simpa using hf
  by_cases n38 : bt s i = 38
  · exact refRead_amp s i op last w hs ho h n38
  by_cases n42 : bt s i = 42
  · exact refRead_star s i op last w hs ho h n42
  by_cases n33 : bt s i = 33
  · exact refRead_bang s i op last w hs ho h n33
  by_cases n124 : bt s i = 124
  · cases op with
    | nil => exact refRead_lit0 s i last w hs h n124
    | cons b o => exact refRead_lit1 s i b o last w hs h n124
  by_cases hp : partsB s i (!op.isEmpty) = true
  · have hc : bt s i = 58 := by
      unfold partsB at hp
      simp only [Bool.and_eq_true, decide_eq_true_eq] at hp
      exact hp.1.2
    cases op with
    | nil => exact refRead_col0 s i last w hs h hc hp
    | cons b o => exact refRead_col1 s i b o last w hs h hc hp
  have hp : partsB s i (!op.isEmpty) = false := by simpa using hp
  by_cases n45 : bt s i = 45
  · cases op with
    | nil =>
      by_cases he : i + 1 = s.size
      · by_cases hl : 1 < last
        · exact refRead_dae0 s i last w hs h n45 he hl
        · exact refRead_dae1 s i last w hs h n45 he hl
      · have hn : i + 1 < s.size := by omega
        by_cases h32 : bt s (i + 1) = 32
        · by_cases hl : 1 < last
          · exact refRead_dab0 s i last w hs h n45 hn h32 hl
          · exact refRead_dab1 s i last w hs h n45 hn h32 hl
        · by_cases hb : beginsB s i false = false
          · exact refRead_pl_nb0_no s i last w hs h hf n38 n42 n33 n124 n39 n34 n45 hn h32 hp hb
          · have hb : beginsB s i false = true := by simpa using hb
            by_cases hl : 1024 < plainE s false i - i
            · exact refRead_pl_nb0_lg s i last w hs h hf n38 n42 n33 n124 n39 n34 n45 hn h32 hp hb hl
            · exact refRead_pl_nb0_ok s i last w hs h hf n38 n42 n33 n124 n39 n34 n45 hn h32 hp hb hl
    | cons b o =>
      by_cases hb : beginsB s i true = false
      · exact refRead_pl_in1_no s i b o last w hs h hf n38 n42 n33 n124 n39 n34 n45 hp hb
      · have hb : beginsB s i true = true := by simpa using hb
        by_cases hl : 1024 < plainE s true i - i
        · exact refRead_pl_in1_lg s i b o last w hs h hf n38 n42 n33 n124 n39 n34 n45 hp hb hl
        · exact refRead_pl_in1_ok s i b o last w hs h hf n38 n42 n33 n124 n39 n34 n45 hp hb hl
  cases op with
  | nil =>
    by_cases hb : beginsB s i false = false
    · exact refRead_pl_ne0_no s i last w hs h hf n38 n42 n33 n124 n39 n34 n45 hp hb
    · have hb : beginsB s i false = true := by simpa using hb
      by_cases hl : 1024 < plainE s false i - i
      · exact refRead_pl_ne0_lg s i last w hs h hf n38 n42 n33 n124 n39 n34 n45 hp hb hl
      · exact refRead_pl_ne0_ok s i last w hs h hf n38 n42 n33 n124 n39 n34 n45 hp hb hl
  | cons b o =>
    by_cases hb : beginsB s i true = false
    · exact refRead_pl_ne1_no s i b o last w hs h hf n38 n42 n33 n124 n39 n34 n45 hp hb
    · have hb : beginsB s i true = true := by simpa using hb
      by_cases hl : 1024 < plainE s true i - i
      · exact refRead_pl_ne1_lg s i b o last w hs h hf n38 n42 n33 n124 n39 n34 n45 hp hb hl
      · exact refRead_pl_ne1_ok s i b o last w hs h hf n38 n42 n33 n124 n39 n34 n45 hp hb hl
end Go.Proofs.YtnnnanemefcmdaaGreatDoor
