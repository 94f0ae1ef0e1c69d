/- The walks of the document's tight and name (layer 7). -/
import Derived.Test.YtnnnanemefcmdaaGreatDoorZL1a
import Derived.Test.YtnnnanemefcmdaaGreatDoorZL0c
import Derived.Test.YtnnnanemefcmdaaGreatDoorZL0a
import Derived.RegionTactic
import Derived.KernelRfl
import Derived.OneCell
import Derived.Deep.DeepAppendRoom
namespace Go.Proofs.YtnnnanemefcmdaaGreatDoor
open Go.RowKit

set_option maxRecDepth 100000 in
set_option maxHeartbeats 2000000 in
theorem refTight_any (s : ByteArray) (i : Nat) (op : List UInt8) (w : World) (hs : s.size ≤ 4000) (h : i ≤ s.size) :
    Calls Tryz.prog 18 #[.string s, .int .i64 i, .string ⟨op.toArray⟩] w fun e w' => e = .returned (.bool (tiB s i op)) ∧ w = w' := by
  by_cases he : i = s.size
  · have q1 : ((i : Int) == (s.size : Int)) = true := by simp [he]
    have HT := Lib.hid (show tiB s i op = true by unfold tiB; rw [decide_eq_true (.inl he)]; rfl)
    clear he
    go_enter Tryz.func18, Tryz.ntmps18
    go_wp2
    go_ret
    exact ⟨by rw [HT.out]; rfl, rfl⟩
  · have hl : i < s.size := by omega
    have q1 : ((i : Int) == (s.size : Int)) = false := by simp only [beq_eq_false_iff_ne, ne_eq]; omega
    by_cases h32 : bt s i = 32
    · have q2 := (eq_true (c := 32) hl h32).2
      have HT := Lib.hid (show tiB s i op = true by unfold tiB; rw [decide_eq_true (.inr h32)]; rfl)
      clear he h32
      go_enter Tryz.func18, Tryz.ntmps18
      go_wp2
      go_ret
      exact ⟨by rw [HT.out]; rfl, rfl⟩
    · have q2 := (ne_true (c := 32) hl h32).2
      have HT := Lib.hid (show tiB s i op = (partsB s i (!op.isEmpty) || (!op.isEmpty && flowB (bt s i))) by
        unfold tiB; rw [decide_eq_false (fun e => e.elim he h32)]; simp)
      have hP := fun fl w => refParts_any s i fl w hl hs
      clear he h32
      cases op with
      | nil =>
        have HT2 := Lib.hid (show tiB s i [] = partsB s i false by rw [HT.out]; simp)
        go_enter Tryz.func18, Tryz.ntmps18
        go_wp2_with fail
        refine (hP false _).mono ?_
        rintro e w' ⟨rfl, rfl⟩
        cases hp : partsB s i false with
        | true =>
          have HR := Lib.hid (HT2.out.trans hp)
          clear hp
          go_wp2
          go_ret
          exact ⟨by rw [HR.out]; rfl, rfl⟩
        | false =>
          have HR := Lib.hid (HT2.out.trans hp)
          clear hp
          go_wp2
          go_ret
          exact ⟨by rw [HR.out]; rfl, rfl⟩
      | cons c op =>
        have HT2 := Lib.hid (show tiB s i (c :: op) = (partsB s i true || flowB (bt s i)) by rw [HT.out]; simp)
        have hF := refFlow_any (s[i].toNat) w (UInt8.toNat_lt _)
        rw [bt_get s i hl] at hF
        go_enter Tryz.func18, Tryz.ntmps18
        go_wp2_with fail
        refine (hP true _).mono ?_
        rintro e w' ⟨rfl, rfl⟩
        cases hp : partsB s i true with
        | true =>
          have HR := Lib.hid (show tiB s i (c :: op) = true by rw [HT2.out, hp]; rfl)
          clear hp
          go_wp2
          go_ret
          exact ⟨by rw [HR.out]; rfl, rfl⟩
        | false =>
          have HR := Lib.hid (show tiB s i (c :: op) = flowB (bt s i) by rw [HT2.out, hp]; rfl)
          clear hp
          go_wp2_with fail
          rw [bt_get s i hl]
          refine hF.mono ?_
          rintro e w' ⟨rfl, rfl⟩
          go_wp2
          go_ret
          exact ⟨by rw [HR.out]; rfl, rfl⟩

set_option maxRecDepth 100000 in
set_option maxHeartbeats 4000000 in
theorem refNameO_any (s : ByteArray) (i k : Nat) (op ahead : List UInt8) (w : World) (hs : s.size ≤ 3000) (h : i < s.size) (ha : ahead.length ≤ 10) :
    Calls Tryz.prog 39 #[.string s, .int .i64 i, .int .i64 k, .string ⟨op.toArray⟩, .string ⟨ahead.toArray⟩] w fun e w' => e = .returned (OnV (naO s i k op ahead)) ∧ Below w.heap.size w w' := by
  go_enter Tryz.func39, Tryz.ntmps39
  go_wp2
  go_loop [11] (fun j => ∃ e f : Nat, j = .int .i64 e ∧ i + 1 ≤ e ∧ e ≤ s.size ∧ s.size ≤ e + f ∧ Hid (wordE s f e = wordE s s.size (i + 1))) (fun j => s.size - (intOf j).toNat)
  case atStart => exact ⟨i + 1, s.size, by go_num, by omega, by omega, by omega, Lib.hid rfl⟩
  case round =>
    obtain ⟨e, f, rfl, he1, he2, hf, hp⟩ := hrel
    by_cases hlt : e < s.size
    · cases hwb : wordB (s[e].toNat) with
      | true =>
        obtain ⟨f, rfl⟩ : ∃ g, f = g + 1 := ⟨f - 1, by omega⟩
        have HW := Lib.hid hwb
        have HP := Lib.hid (show wordE s f (e + 1) = wordE s s.size (i + 1) by rw [← hp.out, wordE_on hlt (by rw [← bt_get s e hlt]; exact hwb)])
        clear hwb hp
        go_wp2_with fail
        refine (refWord_any _ _ (UInt8.toNat_lt _)).mono ?_
        rintro e' w' ⟨rfl, rfl⟩
        rw [HW.out]
        go_wp2
        go_round
        case rel => exact ⟨e + 1, f, by go_num, by omega, by omega, by omega, HP⟩
        case measure => simp [intOf]; omega
      | false =>
        have HW := Lib.hid hwb
        have hwe : wordE s f e = e := wordE_no (.inr (by rw [← bt_get s e hlt]; exact hwb))
        have HWE := Lib.hid hwe
        clear hwb hwe
        go_wp2_with fail
        refine (refWord_any _ _ (UInt8.toNat_lt _)).mono ?_
        rintro e' w' ⟨rfl, rfl⟩
        rw [HW.out]
        have hE := hp.out
        rw [HWE.out] at hE
        have hsz : (s.extract (i + 1) e).size = e - (i + 1) := by rw [ByteArray.size_extract]; omega
        have hN := fun w => refName_any (s.extract (i + 1) e) w (by rw [hsz]; omega)
        cases hn : nameB (s.extract (i + 1) e) with
        | true =>
          have HV := Lib.hid (show naO s i k op ahead = ⟨k, i, ahead ++ (s.extract (i + 1) e).data.toList, e, op, 0, 0⟩ by unfold naO; rw [← hE, hn]; rfl)
          have hcat : (⟨ahead.toArray⟩ : ByteArray) ++ s.extract (i + 1) e = ⟨(ahead ++ (s.extract (i + 1) e).data.toList).toArray⟩ := by
            rw [← cat7, mk_self]
          have HC := Lib.hid hcat
          have hbl : ¬ 9223372036854775807 < ahead.length + (s.extract (i + 1) e).size := by rw [hsz]; omega
          have HNN := Lib.hid hn
          have HS := Lib.hid hsz
          clear hn hcat hE hsz
          go_wp2_with fail
          refine (hN _).mono ?_
          rintro e' w' ⟨rfl, rfl⟩
          rw [HNN.out]
          go_wp2
          refine bodyPost_ret (v := .agg #[.int .i64 k, .int .i64 i, .string (⟨ahead.toArray⟩ ++ s.extract (i + 1) e), .int .i64 e, .string ⟨op.toArray⟩, .int .i64 0, .int .i64 0]) (by simp [results, Tryz.results39, go_sem]) rfl ⟨by rw [HV.out, HC.out]; rfl, ?_⟩
          exact (Below.refl _ _).alloc (Nat.le_refl _) _
        | false =>
          have HV := Lib.hid (show naO s i k op ahead = wrO i by unfold naO; rw [← hE, hn]; rfl)
          have HNN := Lib.hid hn
          have HS := Lib.hid hsz
          clear hn hE hsz
          go_wp2_with fail
          refine (hN _).mono ?_
          rintro e' w' ⟨rfl, rfl⟩
          rw [HNN.out]
          go_wp2_with fail
          refine (refWrong_any i _).mono ?_
          rintro e w1 ⟨rfl, hb⟩
          have hb1 := ((Below.refl w.heap.size w).alloc (Nat.le_refl _) (.cells #[.int .i64 0, .int .i64 0, .string ⟨#[]⟩, .int .i64 0, .string ⟨#[]⟩, .int .i64 0, .int .i64 0] 43)).trans (hb.mono (by simp))
          have hx := (hb.block w.heap.size (by simp)).trans (heap_alloc_new w (.cells #[.int .i64 0, .int .i64 0, .string ⟨#[]⟩, .int .i64 0, .string ⟨#[]⟩, .int .i64 0, .int .i64 0] 43))
          have rc0 := cell_hp hx 0 _ rfl
          have rf0 := free_hp hx 0
          have rc1 := cell_hp hx 1 _ rfl
          have rf1 := free_hp hx 1
          have rc2 := cell_hp hx 2 _ rfl
          have rf2 := free_hp hx 2
          have rc3 := cell_hp hx 3 _ rfl
          have rf3 := free_hp hx 3
          have rc4 := cell_hp hx 4 _ rfl
          have rf4 := free_hp hx 4
          have rc5 := cell_hp hx 5 _ rfl
          have rf5 := free_hp hx 5
          have rc6 := cell_hp hx 6 _ rfl
          have rf6 := free_hp hx 6
          clear hb hx
          go_wp2
          refine bodyPost_ret (v := .agg #[.int .i64 0, .int .i64 0, .string ⟨#[]⟩, .int .i64 0, .string ⟨#[]⟩, .int .i64 3, .int .i64 i]) (by simp [results, Tryz.results39, go_sem, rc0, rc1, rc2, rc3, rc4, rc5, rc6]) rfl ⟨by rw [HV.out]; rfl, ?_⟩
          exact (((((((hb1.setCell (p := ⟨w.heap.size, 0, none⟩) (Nat.le_refl _) _).setCell (p := ⟨w.heap.size, 1, none⟩) (Nat.le_refl _) _).setCell (p := ⟨w.heap.size, 2, none⟩) (Nat.le_refl _) _).setCell (p := ⟨w.heap.size, 3, none⟩) (Nat.le_refl _) _).setCell (p := ⟨w.heap.size, 4, none⟩) (Nat.le_refl _) _).setCell (p := ⟨w.heap.size, 5, none⟩) (Nat.le_refl _) _).setCell (p := ⟨w.heap.size, 6, none⟩) (Nat.le_refl _) _)
    · have hwe : wordE s f e = e := wordE_no (.inl (by omega))
      have HWE := Lib.hid hwe
      clear hwe
      have hE := hp.out
      rw [HWE.out] at hE
      have hsz : (s.extract (i + 1) e).size = e - (i + 1) := by rw [ByteArray.size_extract]; omega
      have hN := fun w => refName_any (s.extract (i + 1) e) w (by rw [hsz]; omega)
      cases hn : nameB (s.extract (i + 1) e) with
      | true =>
        have HV := Lib.hid (show naO s i k op ahead = ⟨k, i, ahead ++ (s.extract (i + 1) e).data.toList, e, op, 0, 0⟩ by unfold naO; rw [← hE, hn]; rfl)
        have hcat : (⟨ahead.toArray⟩ : ByteArray) ++ s.extract (i + 1) e = ⟨(ahead ++ (s.extract (i + 1) e).data.toList).toArray⟩ := by
          rw [← cat7, mk_self]
        have HC := Lib.hid hcat
        have hbl : ¬ 9223372036854775807 < ahead.length + (s.extract (i + 1) e).size := by rw [hsz]; omega
        have HNN := Lib.hid hn
        have HS := Lib.hid hsz
        clear hn hcat hE hsz
        go_wp2_with fail
        refine (hN _).mono ?_
        rintro e' w' ⟨rfl, rfl⟩
        rw [HNN.out]
        go_wp2
        refine bodyPost_ret (v := .agg #[.int .i64 k, .int .i64 i, .string (⟨ahead.toArray⟩ ++ s.extract (i + 1) e), .int .i64 e, .string ⟨op.toArray⟩, .int .i64 0, .int .i64 0]) (by simp [results, Tryz.results39, go_sem]) rfl ⟨by rw [HV.out, HC.out]; rfl, ?_⟩
        exact (Below.refl _ _).alloc (Nat.le_refl _) _
      | false =>
        have HV := Lib.hid (show naO s i k op ahead = wrO i by unfold naO; rw [← hE, hn]; rfl)
        have HNN := Lib.hid hn
        have HS := Lib.hid hsz
        clear hn hE hsz
        go_wp2_with fail
        refine (hN _).mono ?_
        rintro e' w' ⟨rfl, rfl⟩
        rw [HNN.out]
        go_wp2_with fail
        refine (refWrong_any i _).mono ?_
        rintro e w1 ⟨rfl, hb⟩
        have hb1 := ((Below.refl w.heap.size w).alloc (Nat.le_refl _) (.cells #[.int .i64 0, .int .i64 0, .string ⟨#[]⟩, .int .i64 0, .string ⟨#[]⟩, .int .i64 0, .int .i64 0] 43)).trans (hb.mono (by simp))
        have hx := (hb.block w.heap.size (by simp)).trans (heap_alloc_new w (.cells #[.int .i64 0, .int .i64 0, .string ⟨#[]⟩, .int .i64 0, .string ⟨#[]⟩, .int .i64 0, .int .i64 0] 43))
        have rc0 := cell_hp hx 0 _ rfl
        have rf0 := free_hp hx 0
        have rc1 := cell_hp hx 1 _ rfl
        have rf1 := free_hp hx 1
        have rc2 := cell_hp hx 2 _ rfl
        have rf2 := free_hp hx 2
        have rc3 := cell_hp hx 3 _ rfl
        have rf3 := free_hp hx 3
        have rc4 := cell_hp hx 4 _ rfl
        have rf4 := free_hp hx 4
        have rc5 := cell_hp hx 5 _ rfl
        have rf5 := free_hp hx 5
        have rc6 := cell_hp hx 6 _ rfl
        have rf6 := free_hp hx 6
        clear hb hx
        go_wp2
        refine bodyPost_ret (v := .agg #[.int .i64 0, .int .i64 0, .string ⟨#[]⟩, .int .i64 0, .string ⟨#[]⟩, .int .i64 3, .int .i64 i]) (by simp [results, Tryz.results39, go_sem, rc0, rc1, rc2, rc3, rc4, rc5, rc6]) rfl ⟨by rw [HV.out]; rfl, ?_⟩
        exact (((((((hb1.setCell (p := ⟨w.heap.size, 0, none⟩) (Nat.le_refl _) _).setCell (p := ⟨w.heap.size, 1, none⟩) (Nat.le_refl _) _).setCell (p := ⟨w.heap.size, 2, none⟩) (Nat.le_refl _) _).setCell (p := ⟨w.heap.size, 3, none⟩) (Nat.le_refl _) _).setCell (p := ⟨w.heap.size, 4, none⟩) (Nat.le_refl _) _).setCell (p := ⟨w.heap.size, 5, none⟩) (Nat.le_refl _) _).setCell (p := ⟨w.heap.size, 6, none⟩) (Nat.le_refl _) _)
end Go.Proofs.YtnnnanemefcmdaaGreatDoor
namespace Go.Proofs.YtnnnanemefcmdaaGreatDoor
open Go.RowKit
set_option maxRecDepth 100000 in
set_option maxHeartbeats 4000000 in
theorem refRead_flow (s : ByteArray) (i : Nat) (op : List UInt8) (last : Nat) (w : World) (hs : s.size ≤ 3000) (ho : op.length ≤ 4000) (h : i < s.size) (hf : flowB (bt s i) = true) :
    Calls Tryz.prog 17 #[.string s, .int .i64 i, .string ⟨op.toArray⟩, .int .i64 last] w fun e w' => e = .returned (OnV (rdO s i op last)) ∧ Below w.heap.size w w' := by
  have hF : ∀ w, Calls Tryz.prog 37 #[.int .u8 (s[i].toNat : Int)] w fun e w' => e = .returned (.bool true) ∧ w = w' := fun w => by
    have h0 := refFlow_any (s[i].toNat) w (UInt8.toNat_lt _)
    rwa [show flowB (s[i].toNat) = true by rw [bt_get s i h]; exact hf] at h0
  obtain ⟨x, hx0⟩ : ∃ x, flO s i op = x := ⟨_, rfl⟩
  have hC : ∀ w, Calls Tryz.prog 38 #[.string s, .int .i64 i, .string ⟨op.toArray⟩] w fun e w' => e = .returned (OnV (flO s i op)) ∧ Below w.heap.size w w' := fun w => refFlowO_any s i op w (by omega) ho h hf
  simp only [hx0, OnV] at hC
  have HX := Lib.hid (show rdO s i op last = x by rw [← hx0]; unfold rdO reO; rw [if_neg (fun e => by rw [e] at hf; revert hf; decide), if_neg (fun e => by rw [e] at hf; revert hf; decide), if_pos hf])
  clear hx0 hf
  go_enter Tryz.func17, Tryz.ntmps17
  go_wp2_with fail
  refine (hF _).mono ?_
  rintro e w' ⟨rfl, rfl⟩
  go_wp2_with fail
  refine (hC _).mono ?_
  rintro e w1 ⟨rfl, hb⟩
  have hb1 := ((Below.refl w.heap.size w).alloc (Nat.le_refl _) (.cells #[.int .i64 0, .int .i64 0, .string ⟨#[]⟩, .int .i64 0, .string ⟨#[]⟩, .int .i64 0, .int .i64 0] 43)).trans (hb.mono (by simp))
  have hx := (hb.block w.heap.size (by simp)).trans (heap_alloc_new w (.cells #[.int .i64 0, .int .i64 0, .string ⟨#[]⟩, .int .i64 0, .string ⟨#[]⟩, .int .i64 0, .int .i64 0] 43))
  have rc0 := cell_hp hx 0 _ rfl
  have rf0 := free_hp hx 0
  have rc1 := cell_hp hx 1 _ rfl
  have rf1 := free_hp hx 1
  have rc2 := cell_hp hx 2 _ rfl
  have rf2 := free_hp hx 2
  have rc3 := cell_hp hx 3 _ rfl
  have rf3 := free_hp hx 3
  have rc4 := cell_hp hx 4 _ rfl
  have rf4 := free_hp hx 4
  have rc5 := cell_hp hx 5 _ rfl
  have rf5 := free_hp hx 5
  have rc6 := cell_hp hx 6 _ rfl
  have rf6 := free_hp hx 6
  clear hb hx hF hC
  go_wp2
  refine bodyPost_ret (v := .agg #[.int .i64 (x.k : Nat), .int .i64 (x.a : Nat), .string ⟨x.t.toArray⟩, .int .i64 (x.n : Nat), .string ⟨x.o.toArray⟩, .int .i64 (x.c : Nat), .int .i64 (x.p : Nat)]) (by simp [results, Tryz.results17, go_sem, rc0, rc1, rc2, rc3, rc4, rc5, rc6]) rfl ⟨by rw [HX.out]; rfl, ?_⟩
  exact (((((((hb1.setCell (p := ⟨w.heap.size, 0, none⟩) (Nat.le_refl _) _).setCell (p := ⟨w.heap.size, 1, none⟩) (Nat.le_refl _) _).setCell (p := ⟨w.heap.size, 2, none⟩) (Nat.le_refl _) _).setCell (p := ⟨w.heap.size, 3, none⟩) (Nat.le_refl _) _).setCell (p := ⟨w.heap.size, 4, none⟩) (Nat.le_refl _) _).setCell (p := ⟨w.heap.size, 5, none⟩) (Nat.le_refl _) _).setCell (p := ⟨w.heap.size, 6, none⟩) (Nat.le_refl _) _)
set_option maxRecDepth 100000 in
set_option maxHeartbeats 4000000 in
theorem refRead_amp (s : ByteArray) (i : Nat) (op : List UInt8) (last : Nat) (w : World) (hs : s.size ≤ 3000) (_ho : op.length ≤ 4000) (h : i < s.size) (hc : bt s i = 38) :
    Calls Tryz.prog 17 #[.string s, .int .i64 i, .string ⟨op.toArray⟩, .int .i64 last] w fun e w' => e = .returned (OnV (rdO s i op last)) ∧ Below w.heap.size w w' := by
  have hf : flowB (bt s i) = false := by rw [hc]; decide
  have hF : ∀ w, Calls Tryz.prog 37 #[.int .u8 (s[i].toNat : Int)] w fun e w' => e = .returned (.bool false) ∧ w = w' := fun w => by
    have h0 := refFlow_any (s[i].toNat) w (UInt8.toNat_lt _)
    rwa [show flowB (s[i].toNat) = false by rw [bt_get s i h]; exact hf] at h0
  have q38 : ((s[i].toNat : Int) == 38) = true := (eq_true (c := 38) h hc).2
  obtain ⟨x, hx0⟩ : ∃ x, naO s i 8 op [] = x := ⟨_, rfl⟩
  have hC : ∀ w, Calls Tryz.prog 39 #[.string s, .int .i64 i, .int .i64 8, .string ⟨op.toArray⟩, .string ⟨#[]⟩] w fun e w' => e = .returned (OnV (naO s i 8 op [])) ∧ Below w.heap.size w w' := fun w => refNameO_any s i 8 op [] w hs h (by simp)
  simp only [hx0, OnV] at hC
  have HX := Lib.hid (show rdO s i op last = x by rw [← hx0]; unfold rdO reO; rw [if_neg (by omega), if_neg (by omega), if_neg (by rw [hf]; simp), if_pos hc])
  clear hx0 hf hc
  go_enter Tryz.func17, Tryz.ntmps17
  go_wp2_with fail
  refine (hF _).mono ?_
  rintro e w' ⟨rfl, rfl⟩
  go_wp2_with fail
  refine (hC _).mono ?_
  rintro e w1 ⟨rfl, hb⟩
  have hb1 := ((Below.refl w.heap.size w).alloc (Nat.le_refl _) (.cells #[.int .i64 0, .int .i64 0, .string ⟨#[]⟩, .int .i64 0, .string ⟨#[]⟩, .int .i64 0, .int .i64 0] 43)).trans (hb.mono (by simp))
  have hx := (hb.block w.heap.size (by simp)).trans (heap_alloc_new w (.cells #[.int .i64 0, .int .i64 0, .string ⟨#[]⟩, .int .i64 0, .string ⟨#[]⟩, .int .i64 0, .int .i64 0] 43))
  have rc0 := cell_hp hx 0 _ rfl
  have rf0 := free_hp hx 0
  have rc1 := cell_hp hx 1 _ rfl
  have rf1 := free_hp hx 1
  have rc2 := cell_hp hx 2 _ rfl
  have rf2 := free_hp hx 2
  have rc3 := cell_hp hx 3 _ rfl
  have rf3 := free_hp hx 3
  have rc4 := cell_hp hx 4 _ rfl
  have rf4 := free_hp hx 4
  have rc5 := cell_hp hx 5 _ rfl
  have rf5 := free_hp hx 5
  have rc6 := cell_hp hx 6 _ rfl
  have rf6 := free_hp hx 6
  clear hb hx hF hC
  go_wp2
  refine bodyPost_ret (v := .agg #[.int .i64 (x.k : Nat), .int .i64 (x.a : Nat), .string ⟨x.t.toArray⟩, .int .i64 (x.n : Nat), .string ⟨x.o.toArray⟩, .int .i64 (x.c : Nat), .int .i64 (x.p : Nat)]) (by simp [results, Tryz.results17, go_sem, rc0, rc1, rc2, rc3, rc4, rc5, rc6]) rfl ⟨by rw [HX.out]; rfl, ?_⟩
  exact (((((((hb1.setCell (p := ⟨w.heap.size, 0, none⟩) (Nat.le_refl _) _).setCell (p := ⟨w.heap.size, 1, none⟩) (Nat.le_refl _) _).setCell (p := ⟨w.heap.size, 2, none⟩) (Nat.le_refl _) _).setCell (p := ⟨w.heap.size, 3, none⟩) (Nat.le_refl _) _).setCell (p := ⟨w.heap.size, 4, none⟩) (Nat.le_refl _) _).setCell (p := ⟨w.heap.size, 5, none⟩) (Nat.le_refl _) _).setCell (p := ⟨w.heap.size, 6, none⟩) (Nat.le_refl _) _)
set_option maxRecDepth 100000 in
set_option maxHeartbeats 4000000 in
theorem refRead_star (s : ByteArray) (i : Nat) (op : List UInt8) (last : Nat) (w : World) (hs : s.size ≤ 3000) (_ho : op.length ≤ 4000) (h : i < s.size) (hc : bt s i = 42) :
    Calls Tryz.prog 17 #[.string s, .int .i64 i, .string ⟨op.toArray⟩, .int .i64 last] w fun e w' => e = .returned (OnV (rdO s i op last)) ∧ Below w.heap.size w w' := by
  have hf : flowB (bt s i) = false := by rw [hc]; decide
  have hF : ∀ w, Calls Tryz.prog 37 #[.int .u8 (s[i].toNat : Int)] w fun e w' => e = .returned (.bool false) ∧ w = w' := fun w => by
    have h0 := refFlow_any (s[i].toNat) w (UInt8.toNat_lt _)
    rwa [show flowB (s[i].toNat) = false by rw [bt_get s i h]; exact hf] at h0
  have q38 : ((s[i].toNat : Int) == 38) = false := (ne_true (c := 38) h (by omega)).2
  have q42 : ((s[i].toNat : Int) == 42) = true := (eq_true (c := 42) h hc).2
  obtain ⟨x, hx0⟩ : ∃ x, naO s i 9 op [] = x := ⟨_, rfl⟩
  have hC : ∀ w, Calls Tryz.prog 39 #[.string s, .int .i64 i, .int .i64 9, .string ⟨op.toArray⟩, .string ⟨#[]⟩] w fun e w' => e = .returned (OnV (naO s i 9 op [])) ∧ Below w.heap.size w w' := fun w => refNameO_any s i 9 op [] w hs h (by simp)
  simp only [hx0, OnV] at hC
  have HX := Lib.hid (show rdO s i op last = x by rw [← hx0]; unfold rdO reO; rw [if_neg (by omega), if_neg (by omega), if_neg (by rw [hf]; simp), if_neg (by omega), if_pos hc])
  clear hx0 hf hc
  go_enter Tryz.func17, Tryz.ntmps17
  go_wp2_with fail
  refine (hF _).mono ?_
  rintro e w' ⟨rfl, rfl⟩
  go_wp2_with fail
  refine (hC _).mono ?_
  rintro e w1 ⟨rfl, hb⟩
  have hb1 := ((Below.refl w.heap.size w).alloc (Nat.le_refl _) (.cells #[.int .i64 0, .int .i64 0, .string ⟨#[]⟩, .int .i64 0, .string ⟨#[]⟩, .int .i64 0, .int .i64 0] 43)).trans (hb.mono (by simp))
  have hx := (hb.block w.heap.size (by simp)).trans (heap_alloc_new w (.cells #[.int .i64 0, .int .i64 0, .string ⟨#[]⟩, .int .i64 0, .string ⟨#[]⟩, .int .i64 0, .int .i64 0] 43))
  have rc0 := cell_hp hx 0 _ rfl
  have rf0 := free_hp hx 0
  have rc1 := cell_hp hx 1 _ rfl
  have rf1 := free_hp hx 1
  have rc2 := cell_hp hx 2 _ rfl
  have rf2 := free_hp hx 2
  have rc3 := cell_hp hx 3 _ rfl
  have rf3 := free_hp hx 3
  have rc4 := cell_hp hx 4 _ rfl
  have rf4 := free_hp hx 4
  have rc5 := cell_hp hx 5 _ rfl
  have rf5 := free_hp hx 5
  have rc6 := cell_hp hx 6 _ rfl
  have rf6 := free_hp hx 6
  clear hb hx hF hC
  go_wp2
  refine bodyPost_ret (v := .agg #[.int .i64 (x.k : Nat), .int .i64 (x.a : Nat), .string ⟨x.t.toArray⟩, .int .i64 (x.n : Nat), .string ⟨x.o.toArray⟩, .int .i64 (x.c : Nat), .int .i64 (x.p : Nat)]) (by simp [results, Tryz.results17, go_sem, rc0, rc1, rc2, rc3, rc4, rc5, rc6]) rfl ⟨by rw [HX.out]; rfl, ?_⟩
  exact (((((((hb1.setCell (p := ⟨w.heap.size, 0, none⟩) (Nat.le_refl _) _).setCell (p := ⟨w.heap.size, 1, none⟩) (Nat.le_refl _) _).setCell (p := ⟨w.heap.size, 2, none⟩) (Nat.le_refl _) _).setCell (p := ⟨w.heap.size, 3, none⟩) (Nat.le_refl _) _).setCell (p := ⟨w.heap.size, 4, none⟩) (Nat.le_refl _) _).setCell (p := ⟨w.heap.size, 5, none⟩) (Nat.le_refl _) _).setCell (p := ⟨w.heap.size, 6, none⟩) (Nat.le_refl _) _)
set_option maxRecDepth 100000 in
set_option maxHeartbeats 4000000 in
theorem refRead_bang (s : ByteArray) (i : Nat) (op : List UInt8) (last : Nat) (w : World) (hs : s.size ≤ 3000) (_ho : op.length ≤ 4000) (h : i < s.size) (hc : bt s i = 33) :
    Calls Tryz.prog 17 #[.string s, .int .i64 i, .string ⟨op.toArray⟩, .int .i64 last] w fun e w' => e = .returned (OnV (rdO s i op last)) ∧ Below w.heap.size w w' := by
  have hf : flowB (bt s i) = false := by rw [hc]; decide
  have hF : ∀ w, Calls Tryz.prog 37 #[.int .u8 (s[i].toNat : Int)] w fun e w' => e = .returned (.bool false) ∧ w = w' := fun w => by
    have h0 := refFlow_any (s[i].toNat) w (UInt8.toNat_lt _)
    rwa [show flowB (s[i].toNat) = false by rw [bt_get s i h]; exact hf] at h0
  have q38 : ((s[i].toNat : Int) == 38) = false := (ne_true (c := 38) h (by omega)).2
  have q42 : ((s[i].toNat : Int) == 42) = false := (ne_true (c := 42) h (by omega)).2
  have q33 : ((s[i].toNat : Int) == 33) = true := (eq_true (c := 33) h hc).2
  obtain ⟨x, hx0⟩ : ∃ x, naO s i 10 op [33] = x := ⟨_, rfl⟩
  have hC : ∀ w, Calls Tryz.prog 39 #[.string s, .int .i64 i, .int .i64 10, .string ⟨op.toArray⟩, .string ⟨#[33]⟩] w fun e w' => e = .returned (OnV (naO s i 10 op [33])) ∧ Below w.heap.size w w' := fun w => refNameO_any s i 10 op [33] w hs h (by simp)
  simp only [hx0, OnV] at hC
  have HX := Lib.hid (show rdO s i op last = x by rw [← hx0]; unfold rdO reO; rw [if_neg (by omega), if_neg (by omega), if_neg (by rw [hf]; simp), if_neg (by omega), if_neg (by omega), if_pos hc])
  clear hx0 hf hc
  go_enter Tryz.func17, Tryz.ntmps17
  go_wp2_with fail
  refine (hF _).mono ?_
  rintro e w' ⟨rfl, rfl⟩
  go_wp2_with fail
  refine (hC _).mono ?_
  rintro e w1 ⟨rfl, hb⟩
  have hb1 := ((Below.refl w.heap.size w).alloc (Nat.le_refl _) (.cells #[.int .i64 0, .int .i64 0, .string ⟨#[]⟩, .int .i64 0, .string ⟨#[]⟩, .int .i64 0, .int .i64 0] 43)).trans (hb.mono (by simp))
  have hx := (hb.block w.heap.size (by simp)).trans (heap_alloc_new w (.cells #[.int .i64 0, .int .i64 0, .string ⟨#[]⟩, .int .i64 0, .string ⟨#[]⟩, .int .i64 0, .int .i64 0] 43))
  have rc0 := cell_hp hx 0 _ rfl
  have rf0 := free_hp hx 0
  have rc1 := cell_hp hx 1 _ rfl
  have rf1 := free_hp hx 1
  have rc2 := cell_hp hx 2 _ rfl
  have rf2 := free_hp hx 2
  have rc3 := cell_hp hx 3 _ rfl
  have rf3 := free_hp hx 3
  have rc4 := cell_hp hx 4 _ rfl
  have rf4 := free_hp hx 4
  have rc5 := cell_hp hx 5 _ rfl
  have rf5 := free_hp hx 5
  have rc6 := cell_hp hx 6 _ rfl
  have rf6 := free_hp hx 6
  clear hb hx hF hC
  go_wp2
  refine bodyPost_ret (v := .agg #[.int .i64 (x.k : Nat), .int .i64 (x.a : Nat), .string ⟨x.t.toArray⟩, .int .i64 (x.n : Nat), .string ⟨x.o.toArray⟩, .int .i64 (x.c : Nat), .int .i64 (x.p : Nat)]) (by simp [results, Tryz.results17, go_sem, rc0, rc1, rc2, rc3, rc4, rc5, rc6]) rfl ⟨by rw [HX.out]; rfl, ?_⟩
  exact (((((((hb1.setCell (p := ⟨w.heap.size, 0, none⟩) (Nat.le_refl _) _).setCell (p := ⟨w.heap.size, 1, none⟩) (Nat.le_refl _) _).setCell (p := ⟨w.heap.size, 2, none⟩) (Nat.le_refl _) _).setCell (p := ⟨w.heap.size, 3, none⟩) (Nat.le_refl _) _).setCell (p := ⟨w.heap.size, 4, none⟩) (Nat.le_refl _) _).setCell (p := ⟨w.heap.size, 5, none⟩) (Nat.le_refl _) _).setCell (p := ⟨w.heap.size, 6, none⟩) (Nat.le_refl _) _)
end Go.Proofs.YtnnnanemefcmdaaGreatDoor
namespace Go.Proofs.YtnnnanemefcmdaaGreatDoor
open Go.RowKit

theorem OnV_tok (k i n : Nat) (b : ByteArray) (o : List UInt8) : OnV ⟨k, i, b.data.toList, n, o, 0, 0⟩ = .agg #[.int .i64 (k : Nat), .int .i64 (i : Nat), .string b, .int .i64 (n : Nat), .string ⟨o.toArray⟩, .int .i64 0, .int .i64 0] := by
  unfold OnV
  simp only [mk_self]
  rfl
theorem hdI_bd (s : ByteArray) (i : Nat) (h : i ≤ s.size) : i ≤ (hdI s i).2 ∧ (hdI s i).2 ≤ s.size := by
  unfold hdI
  split <;> (simp only; omega)
theorem hdC_bd (s : ByteArray) (i : Nat) (h : i ≤ s.size) : i ≤ (hdC s i).2 ∧ (hdC s i).2 ≤ s.size := by
  unfold hdC
  split
  · simp only; omega
  · split <;> (simp only; omega)
theorem hdr_bd (s : ByteArray) (p : Nat) (h : p < s.size) : p < (hdr s p).2.2 ∧ (hdr s p).2.2 ≤ s.size := by
  have h1 := hdI_bd s (p + 1) (by omega)
  have h2 := hdC_bd s (hdI s (p + 1)).2 h1.2
  unfold hdr
  simp only
  omega
theorem plainE_bd {s : ByteArray} {i : Nat} {fl : Bool} (h : i < s.size) (hb : beginsB s i fl = true) : i < plainE s fl i ∧ plainE s fl i ≤ s.size := by
  have h1 := endOf_is (fl := fl) h
  have h2 := tr_gt s i (endOf s fl i) (begins_ne hb) h1.1
  have h3 := tr_le s (endOf s fl i)
  unfold plainE
  omega
theorem rdS_bd (s : ByteArray) (f : Nat) : ∀ i t n, rdS s f i = some (t, n) → i < n ∧ n ≤ s.size := by
  induction f with
  | zero => intro i t n h; cases h
  | succ f ih =>
    intro i t n h
    rw [rdS] at h
    split at h
    · split at h
      · split at h
        · obtain ⟨⟨a, b⟩, hp, he⟩ := Option.map_eq_some_iff.1 h
          obtain ⟨-, rfl⟩ := Prod.mk.inj he
          have := ih _ _ _ hp; omega
        · obtain ⟨-, rfl⟩ := Prod.mk.inj (Option.some.inj h)
          omega
      · obtain ⟨⟨a, b⟩, hp, he⟩ := Option.map_eq_some_iff.1 h
        obtain ⟨-, rfl⟩ := Prod.mk.inj he
        have := ih _ _ _ hp; omega
    · cases h
theorem DOut_pre_done {o : List UInt8} {d : DOut} {t : List UInt8} {n : Nat} (h : d.pre o = .done t n) : ∃ u, d = .done u n := by
  cases d with
  | done l m => simp only [DOut.pre, DOut.done.injEq] at h; exact ⟨l, by rw [h.2]⟩
  | bad i => cases h
  | cut => cases h
theorem rdD_bd (s : ByteArray) (f : Nat) : ∀ i t n, rdD s f i = .done t n → i < n ∧ n ≤ s.size := by
  induction f with
  | zero => intro i t n h; cases h
  | succ f ih =>
    intro i t n h
    rw [rdD] at h
    split at h
    · rename_i hi
      split at h
      · simp only [DOut.done.injEq] at h; omega
      · split at h
        · split at h
          · cases h
          · obtain ⟨u, hu⟩ := DOut_pre_done h
            have := ih _ _ _ hu; omega
        · obtain ⟨u, hu⟩ := DOut_pre_done h
          have := ih _ _ _ hu; omega
    · cases h
theorem gotQ_bd {t : List UInt8} {a n i m : Nat} (h1 : i < n) (h2 : n ≤ m) (h : (gotQ t a n).2.2.1 = 0) : i < (gotQ t a n).2.1 ∧ (gotQ t a n).2.1 ≤ m := by
  unfold gotQ at *
  split
  · rename_i hg; rw [if_pos hg] at h; cases h
  · exact ⟨h1, h2⟩
theorem sglQ_bd {s : ByteArray} {i : Nat} (h : (sglQ s i).2.2.1 = 0) : i < (sglQ s i).2.1 ∧ (sglQ s i).2.1 ≤ s.size := by
  unfold sglQ at *
  cases hr : rdS s s.size (i + 1) with
  | none => rw [hr] at h; cases h
  | some p =>
    obtain ⟨t, n⟩ := p
    rw [hr] at h
    have hb := rdS_bd s _ _ _ _ hr
    exact gotQ_bd (by omega) hb.2 h
theorem dblQ_bd {s : ByteArray} {i : Nat} (h : (dblQ s i).2.2.1 = 0) : i < (dblQ s i).2.1 ∧ (dblQ s i).2.1 ≤ s.size := by
  unfold dblQ at *
  cases hr : rdD s s.size (i + 1) with
  | cut => rw [hr] at h; cases h
  | bad j => rw [hr] at h; cases h
  | done t n =>
    rw [hr] at h
    have hb := rdD_bd s _ _ _ _ hr
    exact gotQ_bd (by omega) hb.2 h
/-- What is known of a token that begins at a place: where it ends, what is open behind it. -/
structure Tok1 (s : ByteArray) (i : Nat) (op : List UInt8) (last : Nat) (x : On) : Prop where
  at_ : x.a = i
  gt : i < x.n
  le : x.n ≤ s.size
  kd : 1 ≤ x.k ∧ x.k ≤ 13
  fl : x.k = 4 ∧ x.o = op ++ [93] ∨ x.k = 6 ∧ x.o = op ++ [125] ∨ x.k = 5 ∧ (∃ r, op = r ++ [93] ∧ x.o = r) ∨ x.k = 7 ∧ (∃ r, op = r ++ [125] ∧ x.o = r) ∨ x.k = 3 ∧ op ≠ [] ∧ x.o = op ∨ (x.k = 1 ∨ x.k = 13) ∧ op = [] ∧ x.o = [] ∨ (x.k = 2 ∨ x.k = 8 ∨ x.k = 9 ∨ x.k = 10 ∨ x.k = 11 ∨ x.k = 12) ∧ x.o = op
  dash : x.k = 1 → last ≤ 1
theorem naO_tok {s : ByteArray} {i k : Nat} {op ahead : List UInt8} {last : Nat} (h : i < s.size) (hk : k = 8 ∨ k = 9 ∨ k = 10) (hc : (naO s i k op ahead).c = 0) : Tok1 s i op last (naO s i k op ahead) := by
  have hw := wordE_le s s.size (i + 1) (by omega)
  unfold naO at *
  split
  · refine ⟨rfl, by show i < wordE _ _ _; omega, by show wordE _ _ _ ≤ _; omega, by show 1 ≤ k ∧ k ≤ 13; omega, ?_, fun e => by change k = 1 at e; omega⟩
    right; right; right; right; right; right
    exact ⟨by show k = 2 ∨ k = 8 ∨ k = 9 ∨ k = 10 ∨ k = 11 ∨ k = 12; omega, rfl⟩
  · rename_i hn
    rw [if_neg hn] at hc; cases hc
theorem last_split {op : List UInt8} {c : UInt8} (h : op.getLast? = some c) : op = op.dropLast ++ [c] := by
  obtain ⟨hne, hl⟩ := List.getLast?_eq_some_iff.1 h
  rw [hl]; simp
theorem flO_tok {s : ByteArray} {i : Nat} {op : List UInt8} {last : Nat} (h : i < s.size) (hf : flowB (bt s i) = true) (hc : (flO s i op).c = 0) : Tok1 s i op last (flO s i op) := by
  have hcs := flow_cases hf (bt_lt s i)
  unfold flO at *
  by_cases h1 : bt s i = 91
  · rw [if_pos h1]
    exact ⟨rfl, Nat.lt_succ_self _, h, by dsimp only; omega, .inl ⟨rfl, rfl⟩, fun e => by cases e⟩
  rw [if_neg h1] at hc ⊢
  by_cases h2 : bt s i = 123
  · rw [if_pos h2]
    exact ⟨rfl, Nat.lt_succ_self _, h, by dsimp only; omega, .inr (.inl ⟨rfl, rfl⟩), fun e => by cases e⟩
  rw [if_neg h2] at hc ⊢
  by_cases h0 : op = []
  · rw [if_pos h0] at hc; cases hc
  rw [if_neg h0] at hc ⊢
  by_cases h3 : bt s i = 44
  · rw [if_pos h3]
    exact ⟨rfl, Nat.lt_succ_self _, h, by dsimp only; omega, .inr (.inr (.inr (.inr (.inl ⟨rfl, h0, rfl⟩)))), fun e => by cases e⟩
  rw [if_neg h3] at hc ⊢
  by_cases hd : op.getLast?.map UInt8.toNat = some (bt s i)
  · rw [if_neg (fun e => e hd)]
    obtain ⟨c, hc1, hc2⟩ := Option.map_eq_some_iff.1 hd
    have hsp := last_split hc1
    by_cases h5 : bt s i = 125
    · rw [if_pos h5]
      refine ⟨rfl, Nat.lt_succ_self _, h, by dsimp only; omega, .inr (.inr (.inr (.inl ⟨rfl, op.dropLast, ?_, rfl⟩))), fun e => by cases e⟩
      have : c = 125 := UInt8.toNat.inj (by rw [hc2, h5]; rfl)
      rw [← this]; exact hsp
    · rw [if_neg h5]
      refine ⟨rfl, Nat.lt_succ_self _, h, by dsimp only; omega, .inr (.inr (.inl ⟨rfl, op.dropLast, ?_, rfl⟩)), fun e => by cases e⟩
      have : c = 93 := UInt8.toNat.inj (by rw [hc2]; show bt s i = 93; omega)
      rw [← this]; exact hsp
  · rw [if_pos hd] at hc; cases hc
theorem rdO_tok {s : ByteArray} {i : Nat} {op : List UInt8} {last : Nat} (h : i < s.size) (hc : (rdO s i op last).c = 0) : Tok1 s i op last (rdO s i op last) := by
  have other : ∀ x : On, x.a = i → i < x.n → x.n ≤ s.size → (x.k = 2 ∨ x.k = 8 ∨ x.k = 9 ∨ x.k = 10 ∨ x.k = 11 ∨ x.k = 12) → x.o = op → Tok1 s i op last x := fun x h1 h2 h3 h4 h5 =>
    ⟨h1, h2, h3, by omega, .inr (.inr (.inr (.inr (.inr (.inr ⟨h4, h5⟩))))), fun e => by omega⟩
  unfold rdO at *
  by_cases h39 : bt s i = 39
  · rw [if_pos h39] at hc ⊢
    have := sglQ_bd hc
    exact other _ rfl this.1 this.2 (by dsimp only; omega) rfl
  rw [if_neg h39] at hc ⊢
  by_cases h34 : bt s i = 34
  · rw [if_pos h34] at hc ⊢
    have := dblQ_bd hc
    exact other _ rfl this.1 this.2 (by dsimp only; omega) rfl
  rw [if_neg h34] at hc ⊢
  unfold reO at *
  by_cases hf : flowB (bt s i) = true
  · rw [if_pos hf] at hc ⊢; exact flO_tok h hf hc
  rw [if_neg hf] at hc ⊢
  by_cases h38 : bt s i = 38
  · rw [if_pos h38] at hc ⊢; exact naO_tok h (by omega) hc
  rw [if_neg h38] at hc ⊢
  by_cases h42 : bt s i = 42
  · rw [if_pos h42] at hc ⊢; exact naO_tok h (by omega) hc
  rw [if_neg h42] at hc ⊢
  by_cases h33 : bt s i = 33
  · rw [if_pos h33] at hc ⊢; exact naO_tok h (by omega) hc
  rw [if_neg h33] at hc ⊢
  by_cases h124 : bt s i = 124
  · rw [if_pos h124] at hc ⊢
    by_cases h0 : op = []
    · subst h0
      rw [if_neg (by simp)] at hc ⊢
      have := hdr_bd s i h
      exact ⟨rfl, this.1, this.2, by dsimp only; omega, .inr (.inr (.inr (.inr (.inr (.inl ⟨.inr rfl, rfl, rfl⟩))))), fun e => by cases e⟩
    · rw [if_pos h0] at hc; cases hc
  rw [if_neg h124] at hc ⊢
  by_cases hp : partsB s i (!op.isEmpty) = true
  · rw [if_pos hp]
    exact other _ rfl (Nat.lt_succ_self _) h (by dsimp only; omega) rfl
  rw [if_neg hp] at hc ⊢
  by_cases hd : bt s i = 45 ∧ op = [] ∧ (i + 1 = s.size ∨ bt s (i + 1) = 32)
  · rw [if_pos hd] at hc ⊢
    by_cases hl : 1 < last
    · rw [if_pos hl] at hc; cases hc
    · rw [if_neg hl]
      exact ⟨rfl, Nat.lt_succ_self _, h, by dsimp only; omega, .inr (.inr (.inr (.inr (.inr (.inl ⟨.inl rfl, hd.2.1, rfl⟩))))), fun _ => by omega⟩
  rw [if_neg hd] at hc ⊢
  by_cases hb : beginsB s i (!op.isEmpty) = false
  · rw [if_pos hb] at hc; cases hc
  rw [if_neg hb] at hc ⊢
  by_cases hg : 1024 < plainE s (!op.isEmpty) i - i
  · rw [if_pos hg] at hc; cases hc
  rw [if_neg hg]
  have := plainE_bd h (show beginsB s i (!op.isEmpty) = true by simpa using hb)
  exact other _ rfl this.1 this.2 (by dsimp only; omega) rfl
end Go.Proofs.YtnnnanemefcmdaaGreatDoor
namespace Go.Proofs.YtnnnanemefcmdaaGreatDoor
open Go.RowKit

theorem Tok1.olen {s : ByteArray} {i : Nat} {op : List UInt8} {last : Nat} {x : On} (h : Tok1 s i op last x) : x.o.length ≤ op.length + 1 := by
  rcases h.fl with ⟨_, e⟩ | ⟨_, e⟩ | ⟨_, r, e1, e⟩ | ⟨_, r, e1, e⟩ | ⟨_, _, e⟩ | ⟨_, _, e⟩ | ⟨_, e⟩ <;> (rw [e]; (try rw [e1]); simp; try omega)
theorem DOut_pre_bad {o : List UInt8} {d : DOut} {n : Nat} (h : d.pre o = .bad n) : d = .bad n := by
  cases d with
  | done l m => cases h
  | bad i => exact h
  | cut => cases h
theorem rdD_badE (s : ByteArray) (f : Nat) : ∀ i n, rdD s f i = .bad n → n < s.size := by
  induction f with
  | zero => intro i n h; cases h
  | succ f ih =>
    intro i n h
    rw [rdD] at h
    split at h
    · rename_i hi
      split at h
      · cases h
      · split at h
        · split at h
          · simp only [DOut.bad.injEq] at h; omega
          · exact ih _ _ (DOut_pre_bad h)
        · exact ih _ _ (DOut_pre_bad h)
    · cases h
theorem gotQ_err {t : List UInt8} {a n m : Nat} (h1 : a ≤ m) : (gotQ t a n).2.2.2 ≤ m ∧ (gotQ t a n).2.2.1 ≤ 6 := by
  unfold gotQ
  split
  · exact ⟨h1, Nat.le_of_ble_eq_true rfl⟩
  · exact ⟨Nat.zero_le _, Nat.le_of_ble_eq_true rfl⟩
/-- Where what is wrong is: in the row, or at its end; the number of what is wrong. -/
theorem rdO_err {s : ByteArray} {i : Nat} {op : List UInt8} {last : Nat} (h : i < s.size) : (rdO s i op last).p ≤ s.size ∧ (rdO s i op last).c ≤ 6 := by
  have hw : (wrO i).p ≤ s.size ∧ (wrO i).c ≤ 6 := ⟨Nat.le_of_lt h, Nat.le_of_ble_eq_true rfl⟩
  have hn : ∀ k ah, (naO s i k op ah).p ≤ s.size ∧ (naO s i k op ah).c ≤ 6 := fun k ah => by
    unfold naO; split
    · exact ⟨Nat.zero_le _, Nat.zero_le _⟩
    · exact hw
  unfold rdO
  split
  · unfold sglQ
    cases rdS s s.size (i + 1) with
    | none => exact ⟨Nat.le_refl _, Nat.le_of_ble_eq_true rfl⟩
    | some q => exact gotQ_err (by omega)
  · split
    · unfold dblQ
      cases hr : rdD s s.size (i + 1) with
      | cut => exact ⟨Nat.le_refl _, Nat.le_of_ble_eq_true rfl⟩
      | bad j => exact ⟨Nat.le_of_lt (rdD_badE s _ _ _ hr), Nat.le_of_ble_eq_true rfl⟩
      | done l n => exact gotQ_err (by omega)
    · unfold reO
      split
      · unfold flO
        repeat' split
        all_goals first | exact hw | exact ⟨Nat.zero_le _, Nat.zero_le _⟩
      · split
        · exact hn _ _
        · split
          · exact hn _ _
          · split
            · exact hn _ _
            · repeat' split
              all_goals first | exact hw | exact ⟨Nat.zero_le _, Nat.zero_le _⟩ | exact ⟨Nat.le_of_lt h, Nat.le_of_ble_eq_true rfl⟩
end Go.Proofs.YtnnnanemefcmdaaGreatDoor
namespace Go.Proofs.YtnnnanemefcmdaaGreatDoor
open Go.RowKit

/-- A token's three cells. -/
def tk0 (x : Tk) : List Value := [.int .i64 (x.1 : Nat), .int .i64 (x.2.1 : Nat), .string ⟨x.2.2.toArray⟩]
def byV (b : UInt8) : Value := .int .u8 (b.toNat : Nat)
/-- What is known of a row while it is read: its cells, its tokens, what is open. -/
structure St (W0 : World) (R B g : Nat) (s : ByteArray) (tv : Value) (toks : List Tk) (op : List UInt8) (w : World) : Prop where
  row : w.heap[B]? = some (.cells #[.string s, tv, .slice (some ⟨g, 0, none⟩) op.length s.size] 54)
  tok : w.ownsRow W0.heap.size 38 3 tv toks.length (toks.flatMap tk0)
  opn : w.ownsRow W0.heap.size 5 1 (.slice (some ⟨g, 0, none⟩) op.length s.size) op.length (op.map byV)
  res : w.heap[R]? = some (.cells #[.int .i64 0, .int .i64 0] 27)
  bel : Below W0.heap.size W0 w
  rb : W0.heap.size ≤ R
  bb : W0.heap.size ≤ B
theorem hlt_of {w : World} {b : Nat} {o : Obj} (h : w.heap[b]? = some o) : b < w.heap.size := (Array.getElem?_eq_some_iff.1 h).1
theorem St.below {W0 : World} {R B g : Nat} {s : ByteArray} {tv : Value} {toks : List Tk} {op : List UInt8} {w w' : World} (h : St W0 R B g s tv toks op w) (hb : Below w.heap.size w w') : St W0 R B g s tv toks op w' :=
  ⟨(hb.block B (hlt_of h.row)).trans h.row, own_below h.tok hb, own_below h.opn hb, (hb.block R (hlt_of h.res)).trans h.res, h.bel.trans (hb.mono h.bel.size), h.rb, h.bb⟩
theorem blk_ne {w : World} {a b : Nat} {cs ds : Array Value} {t u : TypeId} (h1 : w.heap[a]? = some (.cells cs t)) (h2 : w.heap[b]? = some (.cells ds u)) (h : t ≠ u) : a ≠ b := by
  rintro rfl
  rw [h1] at h2
  injection h2 with h2
  injection h2 with _ h2
  exact h h2
theorem own_ne {w : World} {base : Nat} {e : TypeId} {size n : Nat} {v : Value} {xs : List Value} (h : w.ownsRow base e size v n xs) {b : Nat} {cs : Array Value} {t : TypeId} (hb : w.heap[b]? = some (.cells cs t)) (ht : t ≠ e) : v.ownBlock ≠ some b := by
  rcases h.2 with ⟨rfl, _⟩ | ⟨g, cap, cur, rfl, _, hg, _⟩
  · intro e; cases e
  · intro e
    obtain rfl : g = b := Option.some.inj e
    exact blk_ne hb hg ht rfl
theorem own_gg {w : World} {base g : Nat} {e : TypeId} {size n cap m : Nat} {xs : List Value} (h : w.ownsRow base e size (.slice (some ⟨g, 0, none⟩) n cap) m xs) : ∃ cur, w.heap[g]? = some (.cells cur e) ∧ base ≤ g ∧ cap ≤ maxLen := by
  rcases h.2 with ⟨h0, _⟩ | ⟨g', cap', cur, hv, hbg, hg, _, hc, _⟩
  · cases h0
  · cases hv; exact ⟨cur, hg, hbg, hc⟩
set_option maxRecDepth 100000 in
set_option maxHeartbeats 1000000 in
theorem prSyntax_any (p : Int) (w : World) :
    Calls Tryz.prog 26 #[.int .i64 p] w fun e w' => e = .returned (.agg #[.int .i64 3, .int .i64 p]) ∧ Below w.heap.size w w' := by
  go_enter Tryz.func26, Tryz.ntmps26
  go_wp2
  refine bodyPost_ret (v := .agg #[.int .i64 3, .int .i64 p]) (by simp [results, Tryz.results26, go_sem]) rfl ⟨rfl, ?_⟩
  exact (Below.refl _ _).alloc (Nat.le_refl _) _
set_option maxRecDepth 100000 in
set_option maxHeartbeats 1000000 in
theorem prFlow_any {W0 : World} {R B g : Nat} {s : ByteArray} {tv : Value} {toks : List Tk} {op : List UInt8} (w : World) (h : St W0 R B g s tv toks op w) (fl : Bool) (hfl : (!op.isEmpty) = fl) :
    Calls Tryz.prog 34 #[.pointer (some ⟨B, 0, none⟩)] w fun e w' => e = .returned (.bool fl) ∧ w = w' := by
  have c2 := cell_hp h.row 2 _ rfl
  have hd : decide ((0 : Int) < (op.length : Int)) = fl := by
    rw [← hfl]
    cases op with
    | nil => rfl
    | cons b o => exact decide_eq_true (by simp only [List.length_cons]; omega)
  have HD := Lib.hid hd
  clear h hfl hd
  go_enter Tryz.func34, Tryz.ntmps34
  go_wp2
  go_ret
  exact ⟨ret_b (by rw [← HD.out]; simp), rfl⟩
set_option maxRecDepth 100000 in
set_option maxHeartbeats 2000000 in
theorem prQuoted_ok (t : ByteArray) (n : Int) (w : World) :
    Calls Tryz.prog 29 #[.string t, .int .i64 n, .agg #[.int .i64 0, .int .i64 0]] w fun e w' => e = .returned (.tuple #[.agg #[.int .i64 12, .int .i64 0, .string t], .int .i64 n, .agg #[.int .i64 0, .int .i64 0]]) ∧ Below w.heap.size w w' := by
  go_enter Tryz.func29, Tryz.ntmps29
  go_wp2_with fail
  refine (bad_any _ _ _).mono ?_
  rintro e w1 ⟨rfl, hb⟩
  have hz : ((0 : Int) != 0) = false := rfl
  have hb1 : Below w.heap.size w w1 := ((((Below.refl w.heap.size w).alloc (Nat.le_refl _) (.cells #[.int .i64 0, .int .i64 0] 27)).alloc (by simp) (.cells #[.int .i64 0, .int .i64 0, .string ⟨#[]⟩] 38)).alloc (by simp; omega) (.cells #[.int .i64 0, .int .i64 0] 27)).trans (hb.mono (by simp; omega))
  have hx1 : w1.heap[w.heap.size + 1]? = some (.cells #[.int .i64 0, .int .i64 0, .string ⟨#[]⟩] 38) := by
    rw [hb.block (w.heap.size + 1) (by simp)]
    rw [Lib.alloc_old _ _ _ (by simp)]
    have := heap_alloc_new (w.alloc (.cells #[.int .i64 0, .int .i64 0] 27)) (.cells #[.int .i64 0, .int .i64 0, .string ⟨#[]⟩] 38)
    simpa using this
  have hx2 : w1.heap[w.heap.size + 1 + 1]? = some (.cells #[.int .i64 0, .int .i64 0] 27) := by
    rw [hb.block (w.heap.size + 1 + 1) (by simp)]
    have := heap_alloc_new ((w.alloc (.cells #[.int .i64 0, .int .i64 0] 27)).alloc (.cells #[.int .i64 0, .int .i64 0, .string ⟨#[]⟩] 38)) (.cells #[.int .i64 0, .int .i64 0] 27)
    simpa using this
  have a0 := cell_hp hx1 0 _ rfl
  have a1 := cell_hp hx1 1 _ rfl
  have a2 := cell_hp hx1 2 _ rfl
  have b0 := free_hp hx1 0
  have b1 := free_hp hx1 1
  have b2 := free_hp hx1 2
  have d0 := cell_hp hx2 0 _ rfl
  have d1 := cell_hp hx2 1 _ rfl
  have f0 := free_hp hx2 0
  have f1 := free_hp hx2 1
  clear hb hx1 hx2
  go_wp2
  refine bodyPost_ret (v := .tuple #[.agg #[.int .i64 12, .int .i64 0, .string t], .int .i64 n, .agg #[.int .i64 0, .int .i64 0]]) (by simp [results, Tryz.results29, go_sem, a0, a1, a2, d0, d1]) rfl ⟨rfl, ?_⟩
  exact ((((hb1.setCell (p := ⟨w.heap.size + 1, 0, none⟩) (by simp) _).setCell (p := ⟨w.heap.size + 1, 1, none⟩) (by simp) _).setCell (p := ⟨w.heap.size + 1, 2, none⟩) (by simp) _).setCell (p := ⟨w.heap.size + 1 + 1, 0, none⟩) (by simp; omega) _).setCell (p := ⟨w.heap.size + 1 + 1, 1, none⟩) (by simp; omega) _
end Go.Proofs.YtnnnanemefcmdaaGreatDoor
namespace Go.Proofs.YtnnnanemefcmdaaGreatDoor
open Go.RowKit

theorem alloc_size (w : World) (o : Obj) : (w.alloc o).heap.size = w.heap.size + 1 := by simp
/-- What a call leaves that lays two blocks first. -/
theorem res2 {w w1 : World} {A C : Obj} {N : Nat} (hb : Below N ((w.alloc A).alloc C) w1) (hN : w.heap.size + 1 + 1 ≤ N) : Below w.heap.size w w1 ∧ w1.heap[w.heap.size]? = some A ∧ w1.heap[w.heap.size + 1]? = some C := by
  refine ⟨(((Below.refl w.heap.size w).alloc (Nat.le_refl _) A).alloc (by simp) C).trans (hb.mono (by omega)), ?_, ?_⟩
  · rw [hb.block _ (by omega), Lib.alloc_old _ _ _ (by simp)]
    exact heap_alloc_new w A
  · rw [hb.block _ (by omega)]
    have := heap_alloc_new (w.alloc A) C
    simpa using this
theorem res1 {w w1 : World} {A : Obj} {N : Nat} (hb : Below N (w.alloc A) w1) (hN : w.heap.size + 1 ≤ N) : Below w.heap.size w w1 ∧ w1.heap[w.heap.size]? = some A := by
  refine ⟨((Below.refl w.heap.size w).alloc (Nat.le_refl _) A).trans (hb.mono (by omega)), ?_⟩
  rw [hb.block _ (by omega)]
  exact heap_alloc_new w A
/-- Numbers below which all blocks of a row lie. -/
structure Lows (W0 : World) (R B g : Nat) (tv : Value) (N : Nat) : Prop where
  b : B < N
  r : R < N
  g : g < N
  t : ∀ k, tv.ownBlock = some k → k < N
  w : W0.heap.size ≤ N
theorem St.lows {W0 : World} {R B g : Nat} {s : ByteArray} {tv : Value} {toks : List Tk} {op : List UInt8} {w : World} (h : St W0 R B g s tv toks op w) : Lows W0 R B g tv w.heap.size := by
  obtain ⟨cur, hg, _, _⟩ := own_gg h.opn
  refine ⟨hlt_of h.row, hlt_of h.res, hlt_of hg, fun k hk => ?_, h.bel.size⟩
  rcases h.tok.2 with ⟨rfl, _⟩ | ⟨g', cap, cur', rfl, _, hg', _⟩
  · cases hk
  · cases hk; exact hlt_of hg'
theorem St.set {W0 : World} {R B g : Nat} {s : ByteArray} {tv : Value} {toks : List Tk} {op : List UInt8} {w : World} (h : St W0 R B g s tv toks op w) {N k : Nat} (hl : Lows W0 R B g tv N) (hk : N ≤ k) (j : Nat) (v : Value) : St W0 R B g s tv toks op (w.setCell ⟨k, j, none⟩ v) := by
  have h1 := hl.b
  have h2 := hl.r
  have h3 := hl.g
  refine ⟨?_, ownsRow_setCell_other h.tok (fun e => ?_) v, ownsRow_setCell_other h.opn (fun e => ?_) v, ?_, h.bel.setCell (p := ⟨k, j, none⟩) (Nat.le_trans hl.w hk) v, h.rb, h.bb⟩
  · rw [Below.heap_setCell _ _ _ _ (show B ≠ k by omega)]; exact h.row
  · have := hl.t k e; omega
  · have e2 : g = k := Option.some.inj e
    omega
  · rw [Below.heap_setCell _ _ _ _ (show R ≠ k by omega)]; exact h.res
/-- All blocks but two are as they were. -/
def Kept (B g : Nat) (w w' : World) : Prop := w.heap.size ≤ w'.heap.size ∧ ∀ k, k < w.heap.size → k ≠ B → k ≠ g → w'.heap[k]? = w.heap[k]?
theorem Kept.of_below {B g : Nat} {w w' : World} (h : Below w.heap.size w w') : Kept B g w w' := ⟨h.size, fun k hk _ _ => h.block k hk⟩
theorem Kept.trans {B g : Nat} {w w1 w' : World} (h : Kept B g w w1) (h2 : Kept B g w1 w') : Kept B g w w' := ⟨Nat.le_trans h.1 h2.1, fun k hk a b => (h2.2 k (Nat.lt_of_lt_of_le hk h.1) a b).trans (h.2 k hk a b)⟩
theorem setCell_size (w : World) (a : Addr) (v : Value) : (w.setCell a v).heap.size = w.heap.size := by simp
theorem Kept.set {B g : Nat} {w w1 : World} (h : Kept B g w w1) {k : Nat} (hk : w.heap.size ≤ k) (j : Nat) (v : Value) : Kept B g w (w1.setCell ⟨k, j, none⟩ v) :=
  ⟨by rw [setCell_size]; exact h.1, fun i hi a b => by rw [Below.heap_setCell _ _ _ _ (show i ≠ k by omega)]; exact h.2 i hi a b⟩
theorem Kept.setB {B g : Nat} {w w1 : World} (h : Kept B g w w1) (j : Nat) (v : Value) : Kept B g w (w1.setCell ⟨B, j, none⟩ v) :=
  ⟨by rw [setCell_size]; exact h.1, fun i hi a b => by rw [Below.heap_setCell _ _ _ _ a]; exact h.2 i hi a b⟩
theorem Kept.here {B g : Nat} {w w1 : World} (h : Kept B g w w1) {W0 : World} {R : Nat} {s : ByteArray} {tv : Value} {toks : List Tk} {op : List UInt8} {wa : World} (hs : St W0 R B g s tv toks op wa) {k : Nat} {o : Obj} (hk : wa.heap.size ≤ k) (ho : w.heap[k]? = some o) : w1.heap[k]? = some o := by
  have := hs.lows.b
  have := hs.lows.g
  exact (h.2 k (hlt_of ho) (by omega) (by omega)).trans ho
theorem byV_one (c : UInt8) : (byV c).oneCell' = true := rfl
/-- Behind an append to what is open: the other blocks. -/
theorem St.push {W0 : World} {R B g : Nat} {s : ByteArray} {tv : Value} {toks : List Tk} {op : List UInt8} {w w1 w3 : World} (h : St W0 R B g s tv toks op w) (hb : Below w.heap.size w w1) (hgr : w1.grownBy w3 (some g)) {c : UInt8} (hown : w3.ownsRow W0.heap.size 5 1 (.slice (some ⟨g, 0, none⟩) (op.length + 1) s.size) (op.length + 1) (op.map byV ++ [byV c])) :
    (w3.heap[B]? = some (.cells #[.string s, tv, .slice (some ⟨g, 0, none⟩) op.length s.size] 54)) ∧ (∀ k o, w.heap.size ≤ k → w1.heap[k]? = some o → w3.heap[k]? = some o) ∧
      St W0 R B g s tv toks (op ++ [c]) (w3.setCell ⟨B, 2, none⟩ (.slice (some ⟨g, 0, none⟩) (op.length + 1) s.size)) ∧ Kept B g w (w3.setCell ⟨B, 2, none⟩ (.slice (some ⟨g, 0, none⟩) (op.length + 1) s.size)) := by
  have h1 := h.below hb
  have hl := h.lows
  obtain ⟨cur, hg, hg0, _⟩ := own_gg h1.opn
  have hgB : B ≠ g := blk_ne h1.row hg (by decide)
  have hRg : R ≠ g := blk_ne h1.res hg (by decide)
  have hBR : R ≠ B := blk_ne h1.res h1.row (by decide)
  have htB := own_ne h1.tok h1.row (by decide)
  have htg := own_ne h1.tok hg (by decide)
  have hrow : w3.heap[B]? = some (.cells #[.string s, tv, .slice (some ⟨g, 0, none⟩) op.length s.size] 54) := (hgr.block B (hlt_of h1.row) (fun e => hgB (Option.some.inj e))).trans h1.row
  refine ⟨hrow, fun k o hk ho => (hgr.block k (hlt_of ho) (fun e => by have := hl.g; have := Option.some.inj e; omega)).trans ho, ?_⟩
  have htok : w3.ownsRow W0.heap.size 38 3 tv toks.length (toks.flatMap tk0) := by
    refine ⟨h1.tok.1, ?_⟩
    rcases h1.tok.2 with hn | ⟨g', cap', cur', rfl, hb', hg', rest⟩
    · exact .inl hn
    · exact .inr ⟨g', cap', cur', rfl, hb', (hgr.block g' (hlt_of hg') (fun e => htg (by rw [← Option.some.inj e]; rfl))).trans hg', rest⟩
  have hbel : Below W0.heap.size W0 w3 := h1.bel.grown hgr h1.bel.size (fun k hk => by obtain rfl : g = k := Option.some.inj hk; exact hg0)
  refine ⟨?_, (Kept.of_below hb).trans (Kept.setB ⟨hgr.size, fun k hk _ hkg => hgr.block k hk (fun e => hkg (Option.some.inj e))⟩ 2 _)⟩
  refine ⟨?_, ownsRow_setCell_other htok htB _, ?_, ?_, hbel.setCell (p := ⟨B, 2, none⟩) h.bb _, h.rb, h.bb⟩
  · have := heap_setCell_same w3 B 2 _ _ (.slice (some ⟨g, 0, none⟩) (op.length + 1) s.size) hrow
    rw [List.length_append]
    exact this
  · have := ownsRow_setCell_other hown (a := ⟨B, 2, none⟩) (fun e => hgB (Option.some.inj e).symm) (.slice (some ⟨g, 0, none⟩) (op.length + 1) s.size)
    rw [List.length_append, List.map_append]
    exact this
  · rw [Below.heap_setCell _ _ _ _ (show R ≠ B from hBR)]
    exact (hgr.block R (hlt_of h1.res) (fun e => hRg (Option.some.inj e))).trans h1.res
theorem own_cut {w : World} {base g cap n m : Nat} {e : TypeId} {xs : List Value} (h : w.ownsRow base e 1 (.slice (some ⟨g, 0, none⟩) n cap) n xs) (hm : m ≤ n) : w.ownsRow base e 1 (.slice (some ⟨g, 0, none⟩) m cap) m (xs.take m) := by
  refine ⟨by rw [List.length_take, h.1]; omega, ?_⟩
  rcases h.2 with ⟨h0, _⟩ | ⟨g', cap', cur, hv, hbg, hg, hnc, hcm, hcs, htake⟩
  · cases h0
  · cases hv
    exact .inr ⟨g, cap, cur, rfl, hbg, hg, by omega, hcm, hcs, by rw [← htake, List.take_take]; congr 1; omega⟩
/-- Behind a cut of what is open. -/
theorem St.pop {W0 : World} {R B g : Nat} {s : ByteArray} {tv : Value} {toks : List Tk} {op : List UInt8} {c : UInt8} {w : World} (h : St W0 R B g s tv toks (op ++ [c]) w) : St W0 R B g s tv toks op (w.setCell ⟨B, 2, none⟩ (.slice (some ⟨g, 0, none⟩) op.length s.size)) := by
  obtain ⟨cur, hg, hg0, _⟩ := own_gg h.opn
  have hgB : B ≠ g := blk_ne h.row hg (by decide)
  have hBR : R ≠ B := blk_ne h.res h.row (by decide)
  have htB := own_ne h.tok h.row (by decide)
  refine ⟨?_, ownsRow_setCell_other h.tok htB _, ?_, ?_, h.bel.setCell (p := ⟨B, 2, none⟩) h.bb _, h.rb, h.bb⟩
  · exact heap_setCell_same w B 2 _ _ (.slice (some ⟨g, 0, none⟩) op.length s.size) h.row
  · have e1 : (op ++ [c]).length = op.length + 1 := by simp
    have e2 : (op ++ [c]).map byV = op.map byV ++ [byV c] := by simp
    have ho0 := h.opn
    rw [e1, e2] at ho0
    have ho := own_cut (m := op.length) ho0 (by omega)
    rw [List.take_left' (by simp)] at ho
    exact ownsRow_setCell_other ho (a := ⟨B, 2, none⟩) (fun e => hgB (Option.some.inj e).symm) _
  · rw [Below.heap_setCell _ _ _ _ (show R ≠ B from hBR)]; exact h.res
/-- Behind an append to the tokens. -/
theorem St.tokn {W0 : World} {R B g : Nat} {s : ByteArray} {tv tv' : Value} {toks : List Tk} {op : List UInt8} {x : Tk} {w w1 w3 : World} (h : St W0 R B g s tv toks op w) (hb : Below w.heap.size w w1) (hgr : w1.grownBy w3 tv.ownBlock) (hown : w3.ownsRow W0.heap.size 38 3 tv' (toks.length + 1) (toks.flatMap tk0 ++ tk0 x)) :
    (w3.heap[B]? = some (.cells #[.string s, tv, .slice (some ⟨g, 0, none⟩) op.length s.size] 54)) ∧ St W0 R B g s tv' (toks ++ [x]) op (w3.setCell ⟨B, 1, none⟩ tv') := by
  have h1 := h.below hb
  obtain ⟨cur, hg, hg0, _⟩ := own_gg h1.opn
  have hgB : B ≠ g := blk_ne h1.row hg (by decide)
  have hBR : R ≠ B := blk_ne h1.res h1.row (by decide)
  have htB := own_ne h1.tok h1.row (by decide)
  have htR := own_ne h1.tok h1.res (by decide)
  have htg := own_ne h1.tok hg (by decide)
  have hrow : w3.heap[B]? = some (.cells #[.string s, tv, .slice (some ⟨g, 0, none⟩) op.length s.size] 54) := (hgr.block B (hlt_of h1.row) (fun e => htB e.symm)).trans h1.row
  refine ⟨hrow, ?_⟩
  have hbel : Below W0.heap.size W0 w3 := below_of_grown h1.bel hgr h1.bel.size h1.tok
  have hB' := own_ne hown hrow (by decide)
  have hopn : w3.ownsRow W0.heap.size 5 1 (.slice (some ⟨g, 0, none⟩) op.length s.size) op.length (op.map byV) := by
    refine ⟨h1.opn.1, ?_⟩
    rcases h1.opn.2 with hn | ⟨g', cap', cur', hv, hb', hg', rest⟩
    · exact .inl hn
    · refine .inr ⟨g', cap', cur', hv, hb', (hgr.block g' (hlt_of hg') (fun e => ?_)).trans hg', rest⟩
      cases hv
      exact htg e.symm
  refine ⟨heap_setCell_same w3 B 1 _ _ tv' hrow, ?_, ownsRow_setCell_other hopn (a := ⟨B, 1, none⟩) (fun e => hgB (Option.some.inj e).symm) _, ?_, hbel.setCell (p := ⟨B, 1, none⟩) h.bb _, h.rb, h.bb⟩
  · have := ownsRow_setCell_other hown (a := ⟨B, 1, none⟩) hB' tv'
    rw [List.length_append, List.flatMap_append]
    simpa using this
  · rw [Below.heap_setCell _ _ _ _ (show R ≠ B from hBR)]
    exact (hgr.block R (hlt_of h1.res) (fun e => htR e.symm)).trans h1.res
end Go.Proofs.YtnnnanemefcmdaaGreatDoor
