/- The walks of the program's named (layer 7). -/
import Derived.Test.YtnnnanemefcmdaaGreatDoorZL1c
import Derived.Test.YtnnnanemefcmdaaGreatDoorZL0d
namespace Go.Proofs.YtnnnanemefcmdaaGreatDoor
open Go.RowKit

/-- What a token that begins at a place comes to: kind, text, the place behind it, no fault; or the fault. -/
def PrV (x : On) : Value := if x.c = 0 then .tuple #[.agg #[.int .i64 (x.k : Nat), .int .i64 0, .string ⟨x.t.toArray⟩], .int .i64 (x.n : Nat), .agg #[.int .i64 0, .int .i64 0]] else .tuple #[.agg #[.int .i64 0, .int .i64 0, .string ⟨#[]⟩], .int .i64 0, .agg #[.int .i64 (x.c : Nat), .int .i64 (x.p : Nat)]]
theorem extract_one (s : ByteArray) (i e : Nat) (h : i < s.size) (he : i < e) (_hes : e ≤ s.size) : s.extract i e = ⟨(s[i] :: (s.extract (i + 1) e).data.toList).toArray⟩ := by
  apply ByteArray.ext
  apply Array.ext'
  simp only [ByteArray.data_extract, Array.toList_extract]
  have hl : i < s.data.toList.length := by simpa using h
  simp only [List.extract_eq_take_drop]
  rw [List.drop_eq_getElem_cons hl, show e - i = (e - (i + 1)) + 1 by omega, List.take_succ_cons]
  simp
  rfl
set_option maxRecDepth 100000 in
set_option maxHeartbeats 4000000 in
theorem prNamed_amp {W0 : World} {R B g : Nat} {s : ByteArray} {tv : Value} {toks : List Tk} {op : List UInt8} (i : Nat) (w : World) (h : St W0 R B g s tv toks op w) (hs : s.size ≤ 3000) (hi : i < s.size) (hc : bt s i = 38) :
    Calls Tryz.prog 28 #[.pointer (some ⟨B, 0, none⟩), .int .i64 i] w fun e w' => e = .returned (PrV (naO s i 8 op [])) ∧ Below w.heap.size w w' := by
  have q38 : ((s[i].toNat : Int) == 38) = true := (eq_true (c := 38) hi hc).2
  have c0 := cell_hp h.row 0 _ rfl
  have hBl := hlt_of h.row
  have hBm : ¬ B = w.heap.size := by omega
  have HOK := Lib.hid (show ∀ e, i + 1 ≤ e → e ≤ s.size → e = wordE s s.size (i + 1) → nameB (s.extract (i + 1) e) = true → (Ending.returned (.tuple #[.agg #[.int .i64 8, .int .i64 0, .string (s.extract (i + 1) e)], .int .i64 e, .agg #[.int .i64 0, .int .i64 0]]) : Ending) = .returned (PrV (naO s i 8 op [])) from fun e he1 he2 he hn => by
    subst he
    unfold naO
    rw [if_pos hn]
    unfold PrV
    rw [if_pos rfl]
    have ht : ((s.extract (i + 1) (wordE s s.size (i + 1)))) = ⟨([] ++ (s.extract (i + 1) (wordE s s.size (i + 1))).data.toList).toArray⟩ := by rw [List.nil_append, mk_self]
    rw [ht]; rfl)
  have HER := Lib.hid (show ∀ e, e = wordE s s.size (i + 1) → nameB (s.extract (i + 1) e) = false → (Ending.returned (.tuple #[.agg #[.int .i64 0, .int .i64 0, .string ⟨#[]⟩], .int .i64 0, .agg #[.int .i64 3, .int .i64 i]]) : Ending) = .returned (PrV (naO s i 8 op [])) from fun e he hn => by
    subst he
    unfold naO
    rw [if_neg (by rw [hn]; simp)]
    rfl)
  clear hc h
  go_enter Tryz.func28, Tryz.ntmps28
  go_wp2
  go_loop [7] (fun j => ∃ e f : Nat, j = .int .i64 e ∧ i + 1 ≤ e ∧ e ≤ s.size ∧ s.size ≤ e + f ∧ Hid (wordE s f e = wordE s s.size (i + 1))) (fun j => s.size - (intOf j).toNat)
  case atStart => exact ⟨i + 1, s.size, by go_num, by omega, by omega, by omega, Lib.hid rfl⟩
  case round =>
    obtain ⟨e, f, rfl, he1, he2, hf, hp⟩ := hrel
    by_cases hlt : e < s.size
    · cases hwb : wordB (s[e].toNat) with
      | true =>
        obtain ⟨f, rfl⟩ : ∃ g, f = g + 1 := ⟨f - 1, by omega⟩
        have HW := Lib.hid hwb
        have HP := Lib.hid (show wordE s f (e + 1) = wordE s s.size (i + 1) by rw [← hp.out, wordE_on hlt (by rw [← bt_get s e hlt]; exact hwb)])
        clear hwb hp
        go_wp2_with fail
        refine (word_any _ _ (UInt8.toNat_lt _)).mono ?_
        rintro e' w' ⟨rfl, rfl⟩
        rw [HW.out]
        go_wp2
        go_round
        case rel => exact ⟨e + 1, f, by go_num, by omega, by omega, by omega, HP⟩
        case measure => simp [intOf]; omega
      | false =>
        have HW := Lib.hid hwb
        have HE := Lib.hid (show e = wordE s s.size (i + 1) by rw [← hp.out]; exact (wordE_no (.inr (by rw [← bt_get s e hlt]; exact hwb))).symm)
        clear hwb hp
        go_wp2_with fail
        refine (word_any _ _ (UInt8.toNat_lt _)).mono ?_
        rintro e' w' ⟨rfl, rfl⟩
        rw [HW.out]
        have hsz : (s.extract (i + 1) e).size = e - (i + 1) := by rw [ByteArray.size_extract]; omega
        have hN := fun w => name_any (s.extract (i + 1) e) w (by rw [hsz]; omega)
        cases hn : nameB (s.extract (i + 1) e) with
        | true =>
          have HV := Lib.hid (HOK.out e he1 he2 HE.out hn)
          have HNN := Lib.hid hn
          clear hn hsz
          go_wp2_with fail
          refine (hN _).mono ?_
          rintro e' w' ⟨rfl, rfl⟩
          rw [HNN.out]
          go_wp2
          refine bodyPost_ret (v := .tuple #[.agg #[.int .i64 8, .int .i64 0, .string (s.extract (i + 1) e)], .int .i64 e, .agg #[.int .i64 0, .int .i64 0]]) (by simp [results, Tryz.results28, go_sem]) rfl ⟨HV.out, ?_⟩
          exact (((Below.refl _ _).alloc (Nat.le_refl _) _).alloc (by simp) _)
        | false =>
          have HV := Lib.hid (HER.out e HE.out hn)
          have HNN := Lib.hid hn
          clear hn hsz
          go_wp2_with fail
          refine (hN _).mono ?_
          rintro e' w' ⟨rfl, rfl⟩
          rw [HNN.out]
          go_wp2_with fail
          refine (prSyntax_any i _).mono ?_
          rintro e'' w1 ⟨rfl, hb⟩
          obtain ⟨hb1, hx1, hx2⟩ := res2 hb (by simp)
          have a0 := cell_hp hx1 0 _ rfl
          have e0 := free_hp hx1 0
          have a1 := cell_hp hx1 1 _ rfl
          have e1 := free_hp hx1 1
          have a2 := cell_hp hx1 2 _ rfl
          have e2 := free_hp hx1 2
          have d0 := cell_hp hx2 0 _ rfl
          have f0 := free_hp hx2 0
          have d1 := cell_hp hx2 1 _ rfl
          have f1 := free_hp hx2 1
          clear hb hx1 hx2 c0 hN
          go_wp2
          refine bodyPost_ret (v := .tuple #[.agg #[.int .i64 0, .int .i64 0, .string ⟨#[]⟩], .int .i64 0, .agg #[.int .i64 3, .int .i64 i]]) (by simp [results, Tryz.results28, go_sem, a0, a1, a2, d0, d1]) rfl ⟨HV.out, ?_⟩
          exact ((((hb1.setCell (p := ⟨w.heap.size, 0, none⟩) (Nat.le_refl _) _).setCell (p := ⟨w.heap.size, 1, none⟩) (Nat.le_refl _) _).setCell (p := ⟨w.heap.size, 2, none⟩) (Nat.le_refl _) _).setCell (p := ⟨w.heap.size + 1, 0, none⟩) (Nat.le_succ _) _).setCell (p := ⟨w.heap.size + 1, 1, none⟩) (Nat.le_succ _) _
    · have HE := Lib.hid (show e = wordE s s.size (i + 1) by rw [← hp.out]; exact (wordE_no (.inl (by omega))).symm)
      clear hp
      have hsz : (s.extract (i + 1) e).size = e - (i + 1) := by rw [ByteArray.size_extract]; omega
      have hN := fun w => name_any (s.extract (i + 1) e) w (by rw [hsz]; omega)
      cases hn : nameB (s.extract (i + 1) e) with
      | true =>
        have HV := Lib.hid (HOK.out e he1 he2 HE.out hn)
        have HNN := Lib.hid hn
        clear hn hsz
        go_wp2_with fail
        refine (hN _).mono ?_
        rintro e' w' ⟨rfl, rfl⟩
        rw [HNN.out]
        go_wp2
        refine bodyPost_ret (v := .tuple #[.agg #[.int .i64 8, .int .i64 0, .string (s.extract (i + 1) e)], .int .i64 e, .agg #[.int .i64 0, .int .i64 0]]) (by simp [results, Tryz.results28, go_sem]) rfl ⟨HV.out, ?_⟩
        exact (((Below.refl _ _).alloc (Nat.le_refl _) _).alloc (by simp) _)
      | false =>
        have HV := Lib.hid (HER.out e HE.out hn)
        have HNN := Lib.hid hn
        clear hn hsz
        go_wp2_with fail
        refine (hN _).mono ?_
        rintro e' w' ⟨rfl, rfl⟩
        rw [HNN.out]
        go_wp2_with fail
        refine (prSyntax_any i _).mono ?_
        rintro e'' w1 ⟨rfl, hb⟩
        obtain ⟨hb1, hx1, hx2⟩ := res2 hb (by simp)
        have a0 := cell_hp hx1 0 _ rfl
        have e0 := free_hp hx1 0
        have a1 := cell_hp hx1 1 _ rfl
        have e1 := free_hp hx1 1
        have a2 := cell_hp hx1 2 _ rfl
        have e2 := free_hp hx1 2
        have d0 := cell_hp hx2 0 _ rfl
        have f0 := free_hp hx2 0
        have d1 := cell_hp hx2 1 _ rfl
        have f1 := free_hp hx2 1
        clear hb hx1 hx2 c0 hN
        go_wp2
        refine bodyPost_ret (v := .tuple #[.agg #[.int .i64 0, .int .i64 0, .string ⟨#[]⟩], .int .i64 0, .agg #[.int .i64 3, .int .i64 i]]) (by simp [results, Tryz.results28, go_sem, a0, a1, a2, d0, d1]) rfl ⟨HV.out, ?_⟩
        exact ((((hb1.setCell (p := ⟨w.heap.size, 0, none⟩) (Nat.le_refl _) _).setCell (p := ⟨w.heap.size, 1, none⟩) (Nat.le_refl _) _).setCell (p := ⟨w.heap.size, 2, none⟩) (Nat.le_refl _) _).setCell (p := ⟨w.heap.size + 1, 0, none⟩) (Nat.le_succ _) _).setCell (p := ⟨w.heap.size + 1, 1, none⟩) (Nat.le_succ _) _
set_option maxRecDepth 100000 in
set_option maxHeartbeats 4000000 in
theorem prNamed_star {W0 : World} {R B g : Nat} {s : ByteArray} {tv : Value} {toks : List Tk} {op : List UInt8} (i : Nat) (w : World) (h : St W0 R B g s tv toks op w) (hs : s.size ≤ 3000) (hi : i < s.size) (hc : bt s i = 42) :
    Calls Tryz.prog 28 #[.pointer (some ⟨B, 0, none⟩), .int .i64 i] w fun e w' => e = .returned (PrV (naO s i 9 op [])) ∧ Below w.heap.size w w' := by
  have q38 : ((s[i].toNat : Int) == 38) = false := (ne_true (c := 38) hi (by omega)).2
  have q42 : ((s[i].toNat : Int) == 42) = true := (eq_true (c := 42) hi hc).2
  have c0 := cell_hp h.row 0 _ rfl
  have hBl := hlt_of h.row
  have hBm : ¬ B = w.heap.size := by omega
  have HOK := Lib.hid (show ∀ e, i + 1 ≤ e → e ≤ s.size → e = wordE s s.size (i + 1) → nameB (s.extract (i + 1) e) = true → (Ending.returned (.tuple #[.agg #[.int .i64 9, .int .i64 0, .string (s.extract (i + 1) e)], .int .i64 e, .agg #[.int .i64 0, .int .i64 0]]) : Ending) = .returned (PrV (naO s i 9 op [])) from fun e he1 he2 he hn => by
    subst he
    unfold naO
    rw [if_pos hn]
    unfold PrV
    rw [if_pos rfl]
    have ht : ((s.extract (i + 1) (wordE s s.size (i + 1)))) = ⟨([] ++ (s.extract (i + 1) (wordE s s.size (i + 1))).data.toList).toArray⟩ := by rw [List.nil_append, mk_self]
    rw [ht]; rfl)
  have HER := Lib.hid (show ∀ e, e = wordE s s.size (i + 1) → nameB (s.extract (i + 1) e) = false → (Ending.returned (.tuple #[.agg #[.int .i64 0, .int .i64 0, .string ⟨#[]⟩], .int .i64 0, .agg #[.int .i64 3, .int .i64 i]]) : Ending) = .returned (PrV (naO s i 9 op [])) from fun e he hn => by
    subst he
    unfold naO
    rw [if_neg (by rw [hn]; simp)]
    rfl)
  clear hc h
  go_enter Tryz.func28, Tryz.ntmps28
  go_wp2
  go_loop [7] (fun j => ∃ e f : Nat, j = .int .i64 e ∧ i + 1 ≤ e ∧ e ≤ s.size ∧ s.size ≤ e + f ∧ Hid (wordE s f e = wordE s s.size (i + 1))) (fun j => s.size - (intOf j).toNat)
  case atStart => exact ⟨i + 1, s.size, by go_num, by omega, by omega, by omega, Lib.hid rfl⟩
  case round =>
    obtain ⟨e, f, rfl, he1, he2, hf, hp⟩ := hrel
    by_cases hlt : e < s.size
    · cases hwb : wordB (s[e].toNat) with
      | true =>
        obtain ⟨f, rfl⟩ : ∃ g, f = g + 1 := ⟨f - 1, by omega⟩
        have HW := Lib.hid hwb
        have HP := Lib.hid (show wordE s f (e + 1) = wordE s s.size (i + 1) by rw [← hp.out, wordE_on hlt (by rw [← bt_get s e hlt]; exact hwb)])
        clear hwb hp
        go_wp2_with fail
        refine (word_any _ _ (UInt8.toNat_lt _)).mono ?_
        rintro e' w' ⟨rfl, rfl⟩
        rw [HW.out]
        go_wp2
        go_round
        case rel => exact ⟨e + 1, f, by go_num, by omega, by omega, by omega, HP⟩
        case measure => simp [intOf]; omega
      | false =>
        have HW := Lib.hid hwb
        have HE := Lib.hid (show e = wordE s s.size (i + 1) by rw [← hp.out]; exact (wordE_no (.inr (by rw [← bt_get s e hlt]; exact hwb))).symm)
        clear hwb hp
        go_wp2_with fail
        refine (word_any _ _ (UInt8.toNat_lt _)).mono ?_
        rintro e' w' ⟨rfl, rfl⟩
        rw [HW.out]
        have hsz : (s.extract (i + 1) e).size = e - (i + 1) := by rw [ByteArray.size_extract]; omega
        have hN := fun w => name_any (s.extract (i + 1) e) w (by rw [hsz]; omega)
        cases hn : nameB (s.extract (i + 1) e) with
        | true =>
          have HV := Lib.hid (HOK.out e he1 he2 HE.out hn)
          have HNN := Lib.hid hn
          clear hn hsz
          go_wp2_with fail
          refine (hN _).mono ?_
          rintro e' w' ⟨rfl, rfl⟩
          rw [HNN.out]
          go_wp2
          refine bodyPost_ret (v := .tuple #[.agg #[.int .i64 9, .int .i64 0, .string (s.extract (i + 1) e)], .int .i64 e, .agg #[.int .i64 0, .int .i64 0]]) (by simp [results, Tryz.results28, go_sem]) rfl ⟨HV.out, ?_⟩
          exact (((Below.refl _ _).alloc (Nat.le_refl _) _).alloc (by simp) _)
        | false =>
          have HV := Lib.hid (HER.out e HE.out hn)
          have HNN := Lib.hid hn
          clear hn hsz
          go_wp2_with fail
          refine (hN _).mono ?_
          rintro e' w' ⟨rfl, rfl⟩
          rw [HNN.out]
          go_wp2_with fail
          refine (prSyntax_any i _).mono ?_
          rintro e'' w1 ⟨rfl, hb⟩
          obtain ⟨hb1, hx1, hx2⟩ := res2 hb (by simp)
          have a0 := cell_hp hx1 0 _ rfl
          have e0 := free_hp hx1 0
          have a1 := cell_hp hx1 1 _ rfl
          have e1 := free_hp hx1 1
          have a2 := cell_hp hx1 2 _ rfl
          have e2 := free_hp hx1 2
          have d0 := cell_hp hx2 0 _ rfl
          have f0 := free_hp hx2 0
          have d1 := cell_hp hx2 1 _ rfl
          have f1 := free_hp hx2 1
          clear hb hx1 hx2 c0 hN
          go_wp2
          refine bodyPost_ret (v := .tuple #[.agg #[.int .i64 0, .int .i64 0, .string ⟨#[]⟩], .int .i64 0, .agg #[.int .i64 3, .int .i64 i]]) (by simp [results, Tryz.results28, go_sem, a0, a1, a2, d0, d1]) rfl ⟨HV.out, ?_⟩
          exact ((((hb1.setCell (p := ⟨w.heap.size, 0, none⟩) (Nat.le_refl _) _).setCell (p := ⟨w.heap.size, 1, none⟩) (Nat.le_refl _) _).setCell (p := ⟨w.heap.size, 2, none⟩) (Nat.le_refl _) _).setCell (p := ⟨w.heap.size + 1, 0, none⟩) (Nat.le_succ _) _).setCell (p := ⟨w.heap.size + 1, 1, none⟩) (Nat.le_succ _) _
    · have HE := Lib.hid (show e = wordE s s.size (i + 1) by rw [← hp.out]; exact (wordE_no (.inl (by omega))).symm)
      clear hp
      have hsz : (s.extract (i + 1) e).size = e - (i + 1) := by rw [ByteArray.size_extract]; omega
      have hN := fun w => name_any (s.extract (i + 1) e) w (by rw [hsz]; omega)
      cases hn : nameB (s.extract (i + 1) e) with
      | true =>
        have HV := Lib.hid (HOK.out e he1 he2 HE.out hn)
        have HNN := Lib.hid hn
        clear hn hsz
        go_wp2_with fail
        refine (hN _).mono ?_
        rintro e' w' ⟨rfl, rfl⟩
        rw [HNN.out]
        go_wp2
        refine bodyPost_ret (v := .tuple #[.agg #[.int .i64 9, .int .i64 0, .string (s.extract (i + 1) e)], .int .i64 e, .agg #[.int .i64 0, .int .i64 0]]) (by simp [results, Tryz.results28, go_sem]) rfl ⟨HV.out, ?_⟩
        exact (((Below.refl _ _).alloc (Nat.le_refl _) _).alloc (by simp) _)
      | false =>
        have HV := Lib.hid (HER.out e HE.out hn)
        have HNN := Lib.hid hn
        clear hn hsz
        go_wp2_with fail
        refine (hN _).mono ?_
        rintro e' w' ⟨rfl, rfl⟩
        rw [HNN.out]
        go_wp2_with fail
        refine (prSyntax_any i _).mono ?_
        rintro e'' w1 ⟨rfl, hb⟩
        obtain ⟨hb1, hx1, hx2⟩ := res2 hb (by simp)
        have a0 := cell_hp hx1 0 _ rfl
        have e0 := free_hp hx1 0
        have a1 := cell_hp hx1 1 _ rfl
        have e1 := free_hp hx1 1
        have a2 := cell_hp hx1 2 _ rfl
        have e2 := free_hp hx1 2
        have d0 := cell_hp hx2 0 _ rfl
        have f0 := free_hp hx2 0
        have d1 := cell_hp hx2 1 _ rfl
        have f1 := free_hp hx2 1
        clear hb hx1 hx2 c0 hN
        go_wp2
        refine bodyPost_ret (v := .tuple #[.agg #[.int .i64 0, .int .i64 0, .string ⟨#[]⟩], .int .i64 0, .agg #[.int .i64 3, .int .i64 i]]) (by simp [results, Tryz.results28, go_sem, a0, a1, a2, d0, d1]) rfl ⟨HV.out, ?_⟩
        exact ((((hb1.setCell (p := ⟨w.heap.size, 0, none⟩) (Nat.le_refl _) _).setCell (p := ⟨w.heap.size, 1, none⟩) (Nat.le_refl _) _).setCell (p := ⟨w.heap.size, 2, none⟩) (Nat.le_refl _) _).setCell (p := ⟨w.heap.size + 1, 0, none⟩) (Nat.le_succ _) _).setCell (p := ⟨w.heap.size + 1, 1, none⟩) (Nat.le_succ _) _
set_option maxRecDepth 100000 in
set_option maxHeartbeats 4000000 in
theorem prNamed_bang {W0 : World} {R B g : Nat} {s : ByteArray} {tv : Value} {toks : List Tk} {op : List UInt8} (i : Nat) (w : World) (h : St W0 R B g s tv toks op w) (hs : s.size ≤ 3000) (hi : i < s.size) (hc : bt s i = 33) :
    Calls Tryz.prog 28 #[.pointer (some ⟨B, 0, none⟩), .int .i64 i] w fun e w' => e = .returned (PrV (naO s i 10 op [33])) ∧ Below w.heap.size w w' := by
  have q38 : ((s[i].toNat : Int) == 38) = false := (ne_true (c := 38) hi (by omega)).2
  have q42 : ((s[i].toNat : Int) == 42) = false := (ne_true (c := 42) hi (by omega)).2
  have c0 := cell_hp h.row 0 _ rfl
  have hBl := hlt_of h.row
  have hBm : ¬ B = w.heap.size := by omega
  have HOK := Lib.hid (show ∀ e, i + 1 ≤ e → e ≤ s.size → e = wordE s s.size (i + 1) → nameB (s.extract (i + 1) e) = true → (Ending.returned (.tuple #[.agg #[.int .i64 10, .int .i64 0, .string (s.extract i e)], .int .i64 e, .agg #[.int .i64 0, .int .i64 0]]) : Ending) = .returned (PrV (naO s i 10 op [33])) from fun e he1 he2 he hn => by
    subst he
    unfold naO
    rw [if_pos hn]
    unfold PrV
    rw [if_pos rfl]
    have ht : ((s.extract i (wordE s s.size (i + 1)))) = ⟨([33] ++ (s.extract (i + 1) (wordE s s.size (i + 1))).data.toList).toArray⟩ := by rw [extract_one s i _ hi (Nat.lt_of_lt_of_le (Nat.lt_succ_self _) he1) he2, show s[i] = 33 from UInt8.toNat.inj (by rw [bt_get s i hi, hc]; rfl)]; rfl
    rw [ht]; rfl)
  have HER := Lib.hid (show ∀ e, e = wordE s s.size (i + 1) → nameB (s.extract (i + 1) e) = false → (Ending.returned (.tuple #[.agg #[.int .i64 0, .int .i64 0, .string ⟨#[]⟩], .int .i64 0, .agg #[.int .i64 3, .int .i64 i]]) : Ending) = .returned (PrV (naO s i 10 op [33])) from fun e he hn => by
    subst he
    unfold naO
    rw [if_neg (by rw [hn]; simp)]
    rfl)
  clear hc h
  go_enter Tryz.func28, Tryz.ntmps28
  go_wp2
  go_loop [7] (fun j => ∃ e f : Nat, j = .int .i64 e ∧ i + 1 ≤ e ∧ e ≤ s.size ∧ s.size ≤ e + f ∧ Hid (wordE s f e = wordE s s.size (i + 1))) (fun j => s.size - (intOf j).toNat)
  case atStart => exact ⟨i + 1, s.size, by go_num, by omega, by omega, by omega, Lib.hid rfl⟩
  case round =>
    obtain ⟨e, f, rfl, he1, he2, hf, hp⟩ := hrel
    by_cases hlt : e < s.size
    · cases hwb : wordB (s[e].toNat) with
      | true =>
        obtain ⟨f, rfl⟩ : ∃ g, f = g + 1 := ⟨f - 1, by omega⟩
        have HW := Lib.hid hwb
        have HP := Lib.hid (show wordE s f (e + 1) = wordE s s.size (i + 1) by rw [← hp.out, wordE_on hlt (by rw [← bt_get s e hlt]; exact hwb)])
        clear hwb hp
        go_wp2_with fail
        refine (word_any _ _ (UInt8.toNat_lt _)).mono ?_
        rintro e' w' ⟨rfl, rfl⟩
        rw [HW.out]
        go_wp2
        go_round
        case rel => exact ⟨e + 1, f, by go_num, by omega, by omega, by omega, HP⟩
        case measure => simp [intOf]; omega
      | false =>
        have HW := Lib.hid hwb
        have HE := Lib.hid (show e = wordE s s.size (i + 1) by rw [← hp.out]; exact (wordE_no (.inr (by rw [← bt_get s e hlt]; exact hwb))).symm)
        clear hwb hp
        go_wp2_with fail
        refine (word_any _ _ (UInt8.toNat_lt _)).mono ?_
        rintro e' w' ⟨rfl, rfl⟩
        rw [HW.out]
        have hsz : (s.extract (i + 1) e).size = e - (i + 1) := by rw [ByteArray.size_extract]; omega
        have hN := fun w => name_any (s.extract (i + 1) e) w (by rw [hsz]; omega)
        cases hn : nameB (s.extract (i + 1) e) with
        | true =>
          have HV := Lib.hid (HOK.out e he1 he2 HE.out hn)
          have HNN := Lib.hid hn
          clear hn hsz
          go_wp2_with fail
          refine (hN _).mono ?_
          rintro e' w' ⟨rfl, rfl⟩
          rw [HNN.out]
          go_wp2
          refine bodyPost_ret (v := .tuple #[.agg #[.int .i64 10, .int .i64 0, .string (s.extract i e)], .int .i64 e, .agg #[.int .i64 0, .int .i64 0]]) (by simp [results, Tryz.results28, go_sem]) rfl ⟨HV.out, ?_⟩
          exact (((Below.refl _ _).alloc (Nat.le_refl _) _).alloc (by simp) _)
        | false =>
          have HV := Lib.hid (HER.out e HE.out hn)
          have HNN := Lib.hid hn
          clear hn hsz
          go_wp2_with fail
          refine (hN _).mono ?_
          rintro e' w' ⟨rfl, rfl⟩
          rw [HNN.out]
          go_wp2_with fail
          refine (prSyntax_any i _).mono ?_
          rintro e'' w1 ⟨rfl, hb⟩
          obtain ⟨hb1, hx1, hx2⟩ := res2 hb (by simp)
          have a0 := cell_hp hx1 0 _ rfl
          have e0 := free_hp hx1 0
          have a1 := cell_hp hx1 1 _ rfl
          have e1 := free_hp hx1 1
          have a2 := cell_hp hx1 2 _ rfl
          have e2 := free_hp hx1 2
          have d0 := cell_hp hx2 0 _ rfl
          have f0 := free_hp hx2 0
          have d1 := cell_hp hx2 1 _ rfl
          have f1 := free_hp hx2 1
          clear hb hx1 hx2 c0 hN
          go_wp2
          refine bodyPost_ret (v := .tuple #[.agg #[.int .i64 0, .int .i64 0, .string ⟨#[]⟩], .int .i64 0, .agg #[.int .i64 3, .int .i64 i]]) (by simp [results, Tryz.results28, go_sem, a0, a1, a2, d0, d1]) rfl ⟨HV.out, ?_⟩
          exact ((((hb1.setCell (p := ⟨w.heap.size, 0, none⟩) (Nat.le_refl _) _).setCell (p := ⟨w.heap.size, 1, none⟩) (Nat.le_refl _) _).setCell (p := ⟨w.heap.size, 2, none⟩) (Nat.le_refl _) _).setCell (p := ⟨w.heap.size + 1, 0, none⟩) (Nat.le_succ _) _).setCell (p := ⟨w.heap.size + 1, 1, none⟩) (Nat.le_succ _) _
    · have HE := Lib.hid (show e = wordE s s.size (i + 1) by rw [← hp.out]; exact (wordE_no (.inl (by omega))).symm)
      clear hp
      have hsz : (s.extract (i + 1) e).size = e - (i + 1) := by rw [ByteArray.size_extract]; omega
      have hN := fun w => name_any (s.extract (i + 1) e) w (by rw [hsz]; omega)
      cases hn : nameB (s.extract (i + 1) e) with
      | true =>
        have HV := Lib.hid (HOK.out e he1 he2 HE.out hn)
        have HNN := Lib.hid hn
        clear hn hsz
        go_wp2_with fail
        refine (hN _).mono ?_
        rintro e' w' ⟨rfl, rfl⟩
        rw [HNN.out]
        go_wp2
        refine bodyPost_ret (v := .tuple #[.agg #[.int .i64 10, .int .i64 0, .string (s.extract i e)], .int .i64 e, .agg #[.int .i64 0, .int .i64 0]]) (by simp [results, Tryz.results28, go_sem]) rfl ⟨HV.out, ?_⟩
        exact (((Below.refl _ _).alloc (Nat.le_refl _) _).alloc (by simp) _)
      | false =>
        have HV := Lib.hid (HER.out e HE.out hn)
        have HNN := Lib.hid hn
        clear hn hsz
        go_wp2_with fail
        refine (hN _).mono ?_
        rintro e' w' ⟨rfl, rfl⟩
        rw [HNN.out]
        go_wp2_with fail
        refine (prSyntax_any i _).mono ?_
        rintro e'' w1 ⟨rfl, hb⟩
        obtain ⟨hb1, hx1, hx2⟩ := res2 hb (by simp)
        have a0 := cell_hp hx1 0 _ rfl
        have e0 := free_hp hx1 0
        have a1 := cell_hp hx1 1 _ rfl
        have e1 := free_hp hx1 1
        have a2 := cell_hp hx1 2 _ rfl
        have e2 := free_hp hx1 2
        have d0 := cell_hp hx2 0 _ rfl
        have f0 := free_hp hx2 0
        have d1 := cell_hp hx2 1 _ rfl
        have f1 := free_hp hx2 1
        clear hb hx1 hx2 c0 hN
        go_wp2
        refine bodyPost_ret (v := .tuple #[.agg #[.int .i64 0, .int .i64 0, .string ⟨#[]⟩], .int .i64 0, .agg #[.int .i64 3, .int .i64 i]]) (by simp [results, Tryz.results28, go_sem, a0, a1, a2, d0, d1]) rfl ⟨HV.out, ?_⟩
        exact ((((hb1.setCell (p := ⟨w.heap.size, 0, none⟩) (Nat.le_refl _) _).setCell (p := ⟨w.heap.size, 1, none⟩) (Nat.le_refl _) _).setCell (p := ⟨w.heap.size, 2, none⟩) (Nat.le_refl _) _).setCell (p := ⟨w.heap.size + 1, 0, none⟩) (Nat.le_succ _) _).setCell (p := ⟨w.heap.size + 1, 1, none⟩) (Nat.le_succ _) _
end Go.Proofs.YtnnnanemefcmdaaGreatDoor
