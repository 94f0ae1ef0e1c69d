/- The walk of the document's read (layer 7): plain. -/
import Derived.Test.YtnnnanemefcmdaaGreatDoorZRefYes
import Derived.Test.YtnnnanemefcmdaaGreatDoorZL1b
namespace Go.Proofs.YtnnnanemefcmdaaGreatDoor
open Go.RowKit

set_option maxRecDepth 100000 in
set_option maxHeartbeats 1000000 in
theorem refRead_pl_ne0_no (s : ByteArray) (i : Nat)  (last : Nat) (w : World) (hs : s.size ≤ 3000) (h : i < s.size) (hf : flowB (bt s i) = false) (n38 : bt s i ≠ 38) (n42 : bt s i ≠ 42) (n33 : bt s i ≠ 33) (n124 : bt s i ≠ 124) (n39 : bt s i ≠ 39) (n34 : bt s i ≠ 34) (n45 : bt s i ≠ 45) (hp : partsB s i false = false) (hbg : beginsB s i false = false) :
    Calls Tryz.prog 17 #[.string s, .int .i64 i, .string ⟨#[]⟩, .int .i64 last] w fun e w' => e = .returned (OnV (rdO s i [] last)) ∧ Below w.heap.size w w' := by
  have hF : ∀ w, Calls Tryz.prog 37 #[.int .u8 (s[i].toNat : Int)] w fun e w' => e = .returned (.bool false) ∧ w = w' := fun w => by
    have h0 := refFlow_any (s[i].toNat) w (UInt8.toNat_lt _)
    rwa [show flowB (s[i].toNat) = false by rw [bt_get s i h]; exact hf] at h0
  have q38 : ((s[i].toNat : Int) == 38) = false := (ne_true (c := 38) h n38).2
  have q42 : ((s[i].toNat : Int) == 42) = false := (ne_true (c := 42) h n42).2
  have q33 : ((s[i].toNat : Int) == 33) = false := (ne_true (c := 33) h n33).2
  have q124 : ((s[i].toNat : Int) == 124) = false := (ne_true (c := 124) h n124).2
  have q39 : ((s[i].toNat : Int) == 39) = false := (ne_true (c := 39) h n39).2
  have q34 : ((s[i].toNat : Int) == 34) = false := (ne_true (c := 34) h n34).2
  have q45 : ((s[i].toNat : Int) == 45) = false := (ne_true (c := 45) h n45).2
  have hP : ∀ w, Calls Tryz.prog 44 #[.string s, .int .i64 i, .bool false] w fun e w' => e = .returned (.bool false) ∧ w = w' := fun w => by
    have h0 := refParts_any s i false w h (by omega)
    rwa [hp] at h0
  have hL := fun w => refPlain_no s i false w h (by omega) hbg

  have HX := Lib.hid (show (Ending.returned (.agg #[.int .i64 0, .int .i64 0, .string ⟨#[]⟩, .int .i64 0, .string ⟨#[]⟩, .int .i64 3, .int .i64 i]) : Ending) = .returned (OnV (rdO s i [] last)) by
    unfold rdO reO; simp only [List.isEmpty_nil, Bool.not_true]; rw [if_neg n39, if_neg n34, if_neg (by rw [hf]; simp), if_neg n38, if_neg n42, if_neg n33, if_neg n124, if_neg (by rw [hp]; simp), if_neg (fun e => n45 e.1), if_pos hbg]; rfl)
  clear hf hp n38 n42 n33 n124 n39 n34 n45 hbg
  go_enter Tryz.func17, Tryz.ntmps17
  go_wp2_with fail
  refine (hF _).mono ?_
  rintro e w' ⟨rfl, rfl⟩
  go_wp2_with fail
  refine (hP _).mono ?_
  rintro e w' ⟨rfl, rfl⟩
  go_wp2_with fail
  refine (hL _).mono ?_
  rintro e w' ⟨rfl, rfl⟩
  clear hF hP hL
  go_wp2_with fail
  refine (refWrong_any i _).mono ?_
  rintro e w1 ⟨rfl, hb⟩
  have hb1 := ((Below.refl w.heap.size w).alloc (Nat.le_refl _) (.cells #[.int .i64 0, .int .i64 0, .string ⟨#[]⟩, .int .i64 0, .string ⟨#[]⟩, .int .i64 0, .int .i64 0] 43)).trans (hb.mono (by simp))
  have hx1 := (hb.block w.heap.size (by simp)).trans (heap_alloc_new w (.cells #[.int .i64 0, .int .i64 0, .string ⟨#[]⟩, .int .i64 0, .string ⟨#[]⟩, .int .i64 0, .int .i64 0] 43))
  have hl1 : w.heap.size < w1.heap.size := (Array.getElem?_eq_some_iff.1 hx1).1
  have rc0 := cell_hp hx1 0 _ rfl
  have rf0 := free_hp hx1 0
  have rc1 := cell_hp hx1 1 _ rfl
  have rf1 := free_hp hx1 1
  have rc2 := cell_hp hx1 2 _ rfl
  have rf2 := free_hp hx1 2
  have rc3 := cell_hp hx1 3 _ rfl
  have rf3 := free_hp hx1 3
  have rc4 := cell_hp hx1 4 _ rfl
  have rf4 := free_hp hx1 4
  have rc5 := cell_hp hx1 5 _ rfl
  have rf5 := free_hp hx1 5
  have rc6 := cell_hp hx1 6 _ rfl
  have rf6 := free_hp hx1 6
  clear hb hx1 hl1
  go_wp2
  refine bodyPost_ret (v := .agg #[.int .i64 0, .int .i64 0, .string ⟨#[]⟩, .int .i64 0, .string ⟨#[]⟩, .int .i64 3, .int .i64 i]) (by simp [results, Tryz.results17, go_sem, rc0, rc1, rc2, rc3, rc4, rc5, rc6]) rfl ⟨HX.out, ?_⟩
  exact (((((((hb1.setCell (p := ⟨w.heap.size, 0, none⟩) (Nat.le_refl _) _).setCell (p := ⟨w.heap.size, 1, none⟩) (Nat.le_refl _) _).setCell (p := ⟨w.heap.size, 2, none⟩) (Nat.le_refl _) _).setCell (p := ⟨w.heap.size, 3, none⟩) (Nat.le_refl _) _).setCell (p := ⟨w.heap.size, 4, none⟩) (Nat.le_refl _) _).setCell (p := ⟨w.heap.size, 5, none⟩) (Nat.le_refl _) _).setCell (p := ⟨w.heap.size, 6, none⟩) (Nat.le_refl _) _)
set_option maxRecDepth 100000 in
set_option maxHeartbeats 1000000 in
theorem refRead_pl_ne0_lg (s : ByteArray) (i : Nat)  (last : Nat) (w : World) (hs : s.size ≤ 3000) (h : i < s.size) (hf : flowB (bt s i) = false) (n38 : bt s i ≠ 38) (n42 : bt s i ≠ 42) (n33 : bt s i ≠ 33) (n124 : bt s i ≠ 124) (n39 : bt s i ≠ 39) (n34 : bt s i ≠ 34) (n45 : bt s i ≠ 45) (hp : partsB s i false = false) (hbg : beginsB s i false = true) (hl : 1024 < plainE s false i - i) :
    Calls Tryz.prog 17 #[.string s, .int .i64 i, .string ⟨#[]⟩, .int .i64 last] w fun e w' => e = .returned (OnV (rdO s i [] last)) ∧ Below w.heap.size w w' := by
  have hF : ∀ w, Calls Tryz.prog 37 #[.int .u8 (s[i].toNat : Int)] w fun e w' => e = .returned (.bool false) ∧ w = w' := fun w => by
    have h0 := refFlow_any (s[i].toNat) w (UInt8.toNat_lt _)
    rwa [show flowB (s[i].toNat) = false by rw [bt_get s i h]; exact hf] at h0
  have q38 : ((s[i].toNat : Int) == 38) = false := (ne_true (c := 38) h n38).2
  have q42 : ((s[i].toNat : Int) == 42) = false := (ne_true (c := 42) h n42).2
  have q33 : ((s[i].toNat : Int) == 33) = false := (ne_true (c := 33) h n33).2
  have q124 : ((s[i].toNat : Int) == 124) = false := (ne_true (c := 124) h n124).2
  have q39 : ((s[i].toNat : Int) == 39) = false := (ne_true (c := 39) h n39).2
  have q34 : ((s[i].toNat : Int) == 34) = false := (ne_true (c := 34) h n34).2
  have q45 : ((s[i].toNat : Int) == 45) = false := (ne_true (c := 45) h n45).2
  have hP : ∀ w, Calls Tryz.prog 44 #[.string s, .int .i64 i, .bool false] w fun e w' => e = .returned (.bool false) ∧ w = w' := fun w => by
    have h0 := refParts_any s i false w h (by omega)
    rwa [hp] at h0
  have hL := fun w => refPlain_yes s i false w h (by omega) hbg
  have hbd := plainE_bd h hbg
  obtain ⟨E, hE⟩ : ∃ E, plainE s false i = E := ⟨_, rfl⟩
  rw [hE] at hL hbd hl
  obtain ⟨hE1, hE2⟩ := hbd
  have qg : decide ((1024 : Int) < (E : Int) - (i : Int)) = true := decide_eq_true (by omega)

  have HX := Lib.hid (show (Ending.returned (.agg #[.int .i64 0, .int .i64 0, .string ⟨#[]⟩, .int .i64 0, .string ⟨#[]⟩, .int .i64 5, .int .i64 i]) : Ending) = .returned (OnV (rdO s i [] last)) by
    unfold rdO reO; simp only [List.isEmpty_nil, Bool.not_true]; rw [if_neg n39, if_neg n34, if_neg (by rw [hf]; simp), if_neg n38, if_neg n42, if_neg n33, if_neg n124, if_neg (by rw [hp]; simp), if_neg (fun e => n45 e.1), if_neg (by rw [hbg]; simp), hE, if_pos hl]; rfl)
  clear hf hp n38 n42 n33 n124 n39 n34 n45 hbg hl hE
  go_enter Tryz.func17, Tryz.ntmps17
  go_wp2_with fail
  refine (hF _).mono ?_
  rintro e w' ⟨rfl, rfl⟩
  go_wp2_with fail
  refine (hP _).mono ?_
  rintro e w' ⟨rfl, rfl⟩
  go_wp2_with fail
  refine (hL _).mono ?_
  rintro e w' ⟨rfl, rfl⟩
  go_wp2
  refine bodyPost_ret (v := .agg #[.int .i64 0, .int .i64 0, .string ⟨#[]⟩, .int .i64 0, .string ⟨#[]⟩, .int .i64 5, .int .i64 i]) (by simp [results, Tryz.results17, go_sem]) rfl ⟨HX.out, ?_⟩
  exact (Below.refl _ _).alloc (Nat.le_refl _) _
set_option maxRecDepth 100000 in
set_option maxHeartbeats 1000000 in
theorem refRead_pl_ne0_ok (s : ByteArray) (i : Nat)  (last : Nat) (w : World) (hs : s.size ≤ 3000) (h : i < s.size) (hf : flowB (bt s i) = false) (n38 : bt s i ≠ 38) (n42 : bt s i ≠ 42) (n33 : bt s i ≠ 33) (n124 : bt s i ≠ 124) (n39 : bt s i ≠ 39) (n34 : bt s i ≠ 34) (n45 : bt s i ≠ 45) (hp : partsB s i false = false) (hbg : beginsB s i false = true) (hl : ¬ 1024 < plainE s false i - i) :
    Calls Tryz.prog 17 #[.string s, .int .i64 i, .string ⟨#[]⟩, .int .i64 last] w fun e w' => e = .returned (OnV (rdO s i [] last)) ∧ Below w.heap.size w w' := by
  have hF : ∀ w, Calls Tryz.prog 37 #[.int .u8 (s[i].toNat : Int)] w fun e w' => e = .returned (.bool false) ∧ w = w' := fun w => by
    have h0 := refFlow_any (s[i].toNat) w (UInt8.toNat_lt _)
    rwa [show flowB (s[i].toNat) = false by rw [bt_get s i h]; exact hf] at h0
  have q38 : ((s[i].toNat : Int) == 38) = false := (ne_true (c := 38) h n38).2
  have q42 : ((s[i].toNat : Int) == 42) = false := (ne_true (c := 42) h n42).2
  have q33 : ((s[i].toNat : Int) == 33) = false := (ne_true (c := 33) h n33).2
  have q124 : ((s[i].toNat : Int) == 124) = false := (ne_true (c := 124) h n124).2
  have q39 : ((s[i].toNat : Int) == 39) = false := (ne_true (c := 39) h n39).2
  have q34 : ((s[i].toNat : Int) == 34) = false := (ne_true (c := 34) h n34).2
  have q45 : ((s[i].toNat : Int) == 45) = false := (ne_true (c := 45) h n45).2
  have hP : ∀ w, Calls Tryz.prog 44 #[.string s, .int .i64 i, .bool false] w fun e w' => e = .returned (.bool false) ∧ w = w' := fun w => by
    have h0 := refParts_any s i false w h (by omega)
    rwa [hp] at h0
  have hL := fun w => refPlain_yes s i false w h (by omega) hbg
  have hbd := plainE_bd h hbg
  obtain ⟨E, hE⟩ : ∃ E, plainE s false i = E := ⟨_, rfl⟩
  rw [hE] at hL hbd hl
  obtain ⟨hE1, hE2⟩ := hbd
  have qg : decide ((1024 : Int) < (E : Int) - (i : Int)) = false := decide_eq_false (by omega)

  have HX := Lib.hid (show (Ending.returned (.agg #[.int .i64 11, .int .i64 i, .string (s.extract i E), .int .i64 E, .string ⟨#[]⟩, .int .i64 0, .int .i64 0]) : Ending) = .returned (OnV (rdO s i [] last)) by
    unfold rdO reO; simp only [List.isEmpty_nil, Bool.not_true]; rw [if_neg n39, if_neg n34, if_neg (by rw [hf]; simp), if_neg n38, if_neg n42, if_neg n33, if_neg n124, if_neg (by rw [hp]; simp), if_neg (fun e => n45 e.1), if_neg (by rw [hbg]; simp), hE, if_neg hl, OnV_tok]; rfl)
  clear hf hp n38 n42 n33 n124 n39 n34 n45 hbg hl hE
  go_enter Tryz.func17, Tryz.ntmps17
  go_wp2_with fail
  refine (hF _).mono ?_
  rintro e w' ⟨rfl, rfl⟩
  go_wp2_with fail
  refine (hP _).mono ?_
  rintro e w' ⟨rfl, rfl⟩
  go_wp2_with fail
  refine (hL _).mono ?_
  rintro e w' ⟨rfl, rfl⟩
  go_wp2
  refine bodyPost_ret (v := .agg #[.int .i64 11, .int .i64 i, .string (s.extract i E), .int .i64 E, .string ⟨#[]⟩, .int .i64 0, .int .i64 0]) (by simp [results, Tryz.results17, go_sem]) rfl ⟨HX.out, ?_⟩
  exact (Below.refl _ _).alloc (Nat.le_refl _) _
set_option maxRecDepth 100000 in
set_option maxHeartbeats 1000000 in
theorem refRead_pl_ne1_no (s : ByteArray) (i : Nat) (b : UInt8) (o : List UInt8) (last : Nat) (w : World) (hs : s.size ≤ 3000) (h : i < s.size) (hf : flowB (bt s i) = false) (n38 : bt s i ≠ 38) (n42 : bt s i ≠ 42) (n33 : bt s i ≠ 33) (n124 : bt s i ≠ 124) (n39 : bt s i ≠ 39) (n34 : bt s i ≠ 34) (n45 : bt s i ≠ 45) (hp : partsB s i true = false) (hbg : beginsB s i true = false) :
    Calls Tryz.prog 17 #[.string s, .int .i64 i, .string ⟨(b :: o).toArray⟩, .int .i64 last] w fun e w' => e = .returned (OnV (rdO s i (b :: o) last)) ∧ Below w.heap.size w w' := by
  have hF : ∀ w, Calls Tryz.prog 37 #[.int .u8 (s[i].toNat : Int)] w fun e w' => e = .returned (.bool false) ∧ w = w' := fun w => by
    have h0 := refFlow_any (s[i].toNat) w (UInt8.toNat_lt _)
    rwa [show flowB (s[i].toNat) = false by rw [bt_get s i h]; exact hf] at h0
  have q38 : ((s[i].toNat : Int) == 38) = false := (ne_true (c := 38) h n38).2
  have q42 : ((s[i].toNat : Int) == 42) = false := (ne_true (c := 42) h n42).2
  have q33 : ((s[i].toNat : Int) == 33) = false := (ne_true (c := 33) h n33).2
  have q124 : ((s[i].toNat : Int) == 124) = false := (ne_true (c := 124) h n124).2
  have q39 : ((s[i].toNat : Int) == 39) = false := (ne_true (c := 39) h n39).2
  have q34 : ((s[i].toNat : Int) == 34) = false := (ne_true (c := 34) h n34).2
  have q45 : ((s[i].toNat : Int) == 45) = false := (ne_true (c := 45) h n45).2
  have hP : ∀ w, Calls Tryz.prog 44 #[.string s, .int .i64 i, .bool true] w fun e w' => e = .returned (.bool false) ∧ w = w' := fun w => by
    have h0 := refParts_any s i true w h (by omega)
    rwa [hp] at h0
  have hL := fun w => refPlain_no s i true w h (by omega) hbg

  have HX := Lib.hid (show (Ending.returned (.agg #[.int .i64 0, .int .i64 0, .string ⟨#[]⟩, .int .i64 0, .string ⟨#[]⟩, .int .i64 3, .int .i64 i]) : Ending) = .returned (OnV (rdO s i (b :: o) last)) by
    unfold rdO reO; simp only [List.isEmpty_cons, Bool.not_false]; rw [if_neg n39, if_neg n34, if_neg (by rw [hf]; simp), if_neg n38, if_neg n42, if_neg n33, if_neg n124, if_neg (by rw [hp]; simp), if_neg (fun e => n45 e.1), if_pos hbg]; rfl)
  clear hf hp n38 n42 n33 n124 n39 n34 n45 hbg
  go_enter Tryz.func17, Tryz.ntmps17
  go_wp2_with fail
  refine (hF _).mono ?_
  rintro e w' ⟨rfl, rfl⟩
  go_wp2_with fail
  refine (hP _).mono ?_
  rintro e w' ⟨rfl, rfl⟩
  go_wp2_with fail
  refine (hL _).mono ?_
  rintro e w' ⟨rfl, rfl⟩
  clear hF hP hL
  go_wp2_with fail
  refine (refWrong_any i _).mono ?_
  rintro e w1 ⟨rfl, hb⟩
  have hb1 := ((Below.refl w.heap.size w).alloc (Nat.le_refl _) (.cells #[.int .i64 0, .int .i64 0, .string ⟨#[]⟩, .int .i64 0, .string ⟨#[]⟩, .int .i64 0, .int .i64 0] 43)).trans (hb.mono (by simp))
  have hx1 := (hb.block w.heap.size (by simp)).trans (heap_alloc_new w (.cells #[.int .i64 0, .int .i64 0, .string ⟨#[]⟩, .int .i64 0, .string ⟨#[]⟩, .int .i64 0, .int .i64 0] 43))
  have hl1 : w.heap.size < w1.heap.size := (Array.getElem?_eq_some_iff.1 hx1).1
  have rc0 := cell_hp hx1 0 _ rfl
  have rf0 := free_hp hx1 0
  have rc1 := cell_hp hx1 1 _ rfl
  have rf1 := free_hp hx1 1
  have rc2 := cell_hp hx1 2 _ rfl
  have rf2 := free_hp hx1 2
  have rc3 := cell_hp hx1 3 _ rfl
  have rf3 := free_hp hx1 3
  have rc4 := cell_hp hx1 4 _ rfl
  have rf4 := free_hp hx1 4
  have rc5 := cell_hp hx1 5 _ rfl
  have rf5 := free_hp hx1 5
  have rc6 := cell_hp hx1 6 _ rfl
  have rf6 := free_hp hx1 6
  clear hb hx1 hl1
  go_wp2
  refine bodyPost_ret (v := .agg #[.int .i64 0, .int .i64 0, .string ⟨#[]⟩, .int .i64 0, .string ⟨#[]⟩, .int .i64 3, .int .i64 i]) (by simp [results, Tryz.results17, go_sem, rc0, rc1, rc2, rc3, rc4, rc5, rc6]) rfl ⟨HX.out, ?_⟩
  exact (((((((hb1.setCell (p := ⟨w.heap.size, 0, none⟩) (Nat.le_refl _) _).setCell (p := ⟨w.heap.size, 1, none⟩) (Nat.le_refl _) _).setCell (p := ⟨w.heap.size, 2, none⟩) (Nat.le_refl _) _).setCell (p := ⟨w.heap.size, 3, none⟩) (Nat.le_refl _) _).setCell (p := ⟨w.heap.size, 4, none⟩) (Nat.le_refl _) _).setCell (p := ⟨w.heap.size, 5, none⟩) (Nat.le_refl _) _).setCell (p := ⟨w.heap.size, 6, none⟩) (Nat.le_refl _) _)
set_option maxRecDepth 100000 in
set_option maxHeartbeats 1000000 in
theorem refRead_pl_ne1_lg (s : ByteArray) (i : Nat) (b : UInt8) (o : List UInt8) (last : Nat) (w : World) (hs : s.size ≤ 3000) (h : i < s.size) (hf : flowB (bt s i) = false) (n38 : bt s i ≠ 38) (n42 : bt s i ≠ 42) (n33 : bt s i ≠ 33) (n124 : bt s i ≠ 124) (n39 : bt s i ≠ 39) (n34 : bt s i ≠ 34) (n45 : bt s i ≠ 45) (hp : partsB s i true = false) (hbg : beginsB s i true = true) (hl : 1024 < plainE s true i - i) :
    Calls Tryz.prog 17 #[.string s, .int .i64 i, .string ⟨(b :: o).toArray⟩, .int .i64 last] w fun e w' => e = .returned (OnV (rdO s i (b :: o) last)) ∧ Below w.heap.size w w' := by
  have hF : ∀ w, Calls Tryz.prog 37 #[.int .u8 (s[i].toNat : Int)] w fun e w' => e = .returned (.bool false) ∧ w = w' := fun w => by
    have h0 := refFlow_any (s[i].toNat) w (UInt8.toNat_lt _)
    rwa [show flowB (s[i].toNat) = false by rw [bt_get s i h]; exact hf] at h0
  have q38 : ((s[i].toNat : Int) == 38) = false := (ne_true (c := 38) h n38).2
  have q42 : ((s[i].toNat : Int) == 42) = false := (ne_true (c := 42) h n42).2
  have q33 : ((s[i].toNat : Int) == 33) = false := (ne_true (c := 33) h n33).2
  have q124 : ((s[i].toNat : Int) == 124) = false := (ne_true (c := 124) h n124).2
  have q39 : ((s[i].toNat : Int) == 39) = false := (ne_true (c := 39) h n39).2
  have q34 : ((s[i].toNat : Int) == 34) = false := (ne_true (c := 34) h n34).2
  have q45 : ((s[i].toNat : Int) == 45) = false := (ne_true (c := 45) h n45).2
  have hP : ∀ w, Calls Tryz.prog 44 #[.string s, .int .i64 i, .bool true] w fun e w' => e = .returned (.bool false) ∧ w = w' := fun w => by
    have h0 := refParts_any s i true w h (by omega)
    rwa [hp] at h0
  have hL := fun w => refPlain_yes s i true w h (by omega) hbg
  have hbd := plainE_bd h hbg
  obtain ⟨E, hE⟩ : ∃ E, plainE s true i = E := ⟨_, rfl⟩
  rw [hE] at hL hbd hl
  obtain ⟨hE1, hE2⟩ := hbd
  have qg : decide ((1024 : Int) < (E : Int) - (i : Int)) = true := decide_eq_true (by omega)

  have HX := Lib.hid (show (Ending.returned (.agg #[.int .i64 0, .int .i64 0, .string ⟨#[]⟩, .int .i64 0, .string ⟨#[]⟩, .int .i64 5, .int .i64 i]) : Ending) = .returned (OnV (rdO s i (b :: o) last)) by
    unfold rdO reO; simp only [List.isEmpty_cons, Bool.not_false]; rw [if_neg n39, if_neg n34, if_neg (by rw [hf]; simp), if_neg n38, if_neg n42, if_neg n33, if_neg n124, if_neg (by rw [hp]; simp), if_neg (fun e => n45 e.1), if_neg (by rw [hbg]; simp), hE, if_pos hl]; rfl)
  clear hf hp n38 n42 n33 n124 n39 n34 n45 hbg hl hE
  go_enter Tryz.func17, Tryz.ntmps17
  go_wp2_with fail
  refine (hF _).mono ?_
  rintro e w' ⟨rfl, rfl⟩
  go_wp2_with fail
  refine (hP _).mono ?_
  rintro e w' ⟨rfl, rfl⟩
  go_wp2_with fail
  refine (hL _).mono ?_
  rintro e w' ⟨rfl, rfl⟩
  go_wp2
  refine bodyPost_ret (v := .agg #[.int .i64 0, .int .i64 0, .string ⟨#[]⟩, .int .i64 0, .string ⟨#[]⟩, .int .i64 5, .int .i64 i]) (by simp [results, Tryz.results17, go_sem]) rfl ⟨HX.out, ?_⟩
  exact (Below.refl _ _).alloc (Nat.le_refl _) _
set_option maxRecDepth 100000 in
set_option maxHeartbeats 1000000 in
theorem refRead_pl_ne1_ok (s : ByteArray) (i : Nat) (b : UInt8) (o : List UInt8) (last : Nat) (w : World) (hs : s.size ≤ 3000) (h : i < s.size) (hf : flowB (bt s i) = false) (n38 : bt s i ≠ 38) (n42 : bt s i ≠ 42) (n33 : bt s i ≠ 33) (n124 : bt s i ≠ 124) (n39 : bt s i ≠ 39) (n34 : bt s i ≠ 34) (n45 : bt s i ≠ 45) (hp : partsB s i true = false) (hbg : beginsB s i true = true) (hl : ¬ 1024 < plainE s true i - i) :
    Calls Tryz.prog 17 #[.string s, .int .i64 i, .string ⟨(b :: o).toArray⟩, .int .i64 last] w fun e w' => e = .returned (OnV (rdO s i (b :: o) last)) ∧ Below w.heap.size w w' := by
  have hF : ∀ w, Calls Tryz.prog 37 #[.int .u8 (s[i].toNat : Int)] w fun e w' => e = .returned (.bool false) ∧ w = w' := fun w => by
    have h0 := refFlow_any (s[i].toNat) w (UInt8.toNat_lt _)
    rwa [show flowB (s[i].toNat) = false by rw [bt_get s i h]; exact hf] at h0
  have q38 : ((s[i].toNat : Int) == 38) = false := (ne_true (c := 38) h n38).2
  have q42 : ((s[i].toNat : Int) == 42) = false := (ne_true (c := 42) h n42).2
  have q33 : ((s[i].toNat : Int) == 33) = false := (ne_true (c := 33) h n33).2
  have q124 : ((s[i].toNat : Int) == 124) = false := (ne_true (c := 124) h n124).2
  have q39 : ((s[i].toNat : Int) == 39) = false := (ne_true (c := 39) h n39).2
  have q34 : ((s[i].toNat : Int) == 34) = false := (ne_true (c := 34) h n34).2
  have q45 : ((s[i].toNat : Int) == 45) = false := (ne_true (c := 45) h n45).2
  have hP : ∀ w, Calls Tryz.prog 44 #[.string s, .int .i64 i, .bool true] w fun e w' => e = .returned (.bool false) ∧ w = w' := fun w => by
    have h0 := refParts_any s i true w h (by omega)
    rwa [hp] at h0
  have hL := fun w => refPlain_yes s i true w h (by omega) hbg
  have hbd := plainE_bd h hbg
  obtain ⟨E, hE⟩ : ∃ E, plainE s true i = E := ⟨_, rfl⟩
  rw [hE] at hL hbd hl
  obtain ⟨hE1, hE2⟩ := hbd
  have qg : decide ((1024 : Int) < (E : Int) - (i : Int)) = false := decide_eq_false (by omega)

  have HX := Lib.hid (show (Ending.returned (.agg #[.int .i64 11, .int .i64 i, .string (s.extract i E), .int .i64 E, .string ⟨(b :: o).toArray⟩, .int .i64 0, .int .i64 0]) : Ending) = .returned (OnV (rdO s i (b :: o) last)) by
    unfold rdO reO; simp only [List.isEmpty_cons, Bool.not_false]; rw [if_neg n39, if_neg n34, if_neg (by rw [hf]; simp), if_neg n38, if_neg n42, if_neg n33, if_neg n124, if_neg (by rw [hp]; simp), if_neg (fun e => n45 e.1), if_neg (by rw [hbg]; simp), hE, if_neg hl, OnV_tok]; rfl)
  clear hf hp n38 n42 n33 n124 n39 n34 n45 hbg hl hE
  go_enter Tryz.func17, Tryz.ntmps17
  go_wp2_with fail
  refine (hF _).mono ?_
  rintro e w' ⟨rfl, rfl⟩
  go_wp2_with fail
  refine (hP _).mono ?_
  rintro e w' ⟨rfl, rfl⟩
  go_wp2_with fail
  refine (hL _).mono ?_
  rintro e w' ⟨rfl, rfl⟩
  go_wp2
  refine bodyPost_ret (v := .agg #[.int .i64 11, .int .i64 i, .string (s.extract i E), .int .i64 E, .string ⟨(b :: o).toArray⟩, .int .i64 0, .int .i64 0]) (by simp [results, Tryz.results17, go_sem]) rfl ⟨HX.out, ?_⟩
  exact (Below.refl _ _).alloc (Nat.le_refl _) _
end Go.Proofs.YtnnnanemefcmdaaGreatDoor
