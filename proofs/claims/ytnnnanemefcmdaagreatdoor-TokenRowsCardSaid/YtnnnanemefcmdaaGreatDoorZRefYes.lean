/- The walk of the document's Plain where a plain text begins. -/
import Derived.Test.YtnnnanemefcmdaaGreatDoorZRefPlain
namespace Go.Proofs.YtnnnanemefcmdaaGreatDoor
open Go.RowKit

theorem parts_ends {s : ByteArray} {k : Nat} {fl : Bool} (h : partsB s k fl = true) : endsB s k fl = true := by
  have h58 : bt s k = 58 := by unfold partsB at h; simp at h; exact h.1.2
  unfold endsB; rw [if_pos h58]; exact h
theorem ends_rest {s : ByteArray} {k : Nat} {fl : Bool} (h : partsB s k fl = false) : endsB s k fl = if bt s k = 35 then decide (bt s (k - 1) = 32) else (fl && flowB (bt s k)) := by
  unfold endsB
  by_cases h58 : bt s k = 58
  · rw [if_pos h58, h, h58, if_neg (by decide)]; cases fl <;> decide
  · rw [if_neg h58]
theorem tr_step (s : ByteArray) (m : Nat) (h : 0 < m) (hb : bt s (m - 1) = 32) : tr s m = tr s (m - 1) := by
  obtain ⟨n, rfl⟩ : ∃ n, m = n + 1 := ⟨m - 1, by omega⟩
  rw [tr, if_pos (by simpa using hb)]; rfl
theorem tr_stop (s : ByteArray) (m : Nat) (h : 0 < m) (hb : bt s (m - 1) ≠ 32) : tr s m = m := by
  obtain ⟨n, rfl⟩ : ∃ n, m = n + 1 := ⟨m - 1, by omega⟩
  rw [tr, if_neg (by simpa using hb)]

set_option maxRecDepth 100000 in
set_option maxHeartbeats 8000000 in
theorem refYes_n (s : ByteArray) (i : Nat) (fl : Bool) (w : World) (h : i < s.size) (hs : s.size ≤ 4000) (ho : Hid (opensB (bt s i) = false)) (hbl : Hid (bt s i ≠ 32)) :
    Calls Tryz.prog 45 #[.string s, .int .i64 i, .bool fl] w fun e w' => e = .returned (.tuple #[.int .i64 (plainE s fl i), .bool true]) ∧ w = w' := by
  have k1 : ((s[i].toNat : Int) == 32) = false := (ne_true (c := 32) h hbl.out).2
  have z1 : decide ((i : Int) < 0) = false := by simp
  have z2 : decide (s.size ≤ i) = false := by simp; omega
  have HO := Lib.hid (show opensB (s[i].toNat) = false by rw [bt_get s i h]; exact ho.out)
  go_enter Tryz.func45, Tryz.ntmps45
  go_wp2_with fail
  refine (refOpens_any _ _ (UInt8.toNat_lt _)).mono ?_
  rintro e w' ⟨rfl, rfl⟩
  rw [HO.out]
  go_wp2
  go_loop [8, 9] (fun v j => ∃ k E : Nat, j = .int .i64 k ∧ v = .int .i64 E ∧ i ≤ k ∧ k < E ∧ E ≤ s.size ∧ Hid (E = s.size ∨ endsB s E fl = true) ∧ Hid (∀ m, k < m → m < E → endsB s m fl = false)) (fun _ j => (intOf j).toNat)
  case atStart => exact ⟨s.size - 1, s.size, by congr 1; omega, rfl, by omega, by omega, by omega, Lib.hid (.inl rfl), Lib.hid (by intro m _ _; omega)⟩
  case round =>
    obtain ⟨k, E, rfl, rfl, hk, hkE, hE, hEe, hno⟩ := hrel
    by_cases hlt : i < k
    · have hks : k < s.size := by omega
      have hk1 : k - 1 < s.size := by omega
      cases hpb : partsB s k fl with
      | true =>
        have HP := Lib.hid hpb
        have HE := Lib.hid (parts_ends hpb)
        clear hpb
        go_wp2_with fail
        refine (refParts_any s k fl _ hks hs).mono ?_
        rintro e w' ⟨rfl, rfl⟩
        rw [HP.out]
        go_wp2
        go_round
        case rel => exact ⟨k - 1, k, by congr 1; omega, rfl, by omega, by omega, by omega, Lib.hid (.inr HE.out), Lib.hid (by intro m _ _; omega)⟩
        case measure => simp [intOf]; omega
      | false =>
        have HP := Lib.hid hpb
        have hend := ends_rest (fl := fl) hpb
        clear hpb
        by_cases h35 : bt s k = 35
        · have q1 : ((s[k].toNat : Int) == 35) = true := (eq_true (c := 35) hks h35).2
          by_cases h32 : bt s (k - 1) = 32
          · have q2 : ((s[k - 1].toNat : Int) == 32) = true := (eq_true (c := 32) hk1 h32).2
            have HE := Lib.hid (hend.trans (show _ = true by simp [h35, h32]))
            clear h35 h32 hend
            go_wp2_with fail
            refine (refParts_any s k fl _ hks hs).mono ?_
            rintro e w' ⟨rfl, rfl⟩
            rw [HP.out]
            go_wp2
            go_round
            case rel => exact ⟨k - 1, k, by congr 1; omega, rfl, by omega, by omega, by omega, Lib.hid (.inr HE.out), Lib.hid (by intro m _ _; omega)⟩
            case measure => simp [intOf]; omega
          · have q2 : ((s[k - 1].toNat : Int) == 32) = false := (ne_true (c := 32) hk1 h32).2
            have HE := Lib.hid (hend.trans (show _ = false by simp [h35, h32]))
            have hff : flowB (s[k].toNat) = false := by rw [bt_get s k hks, h35]; decide
            have HF := Lib.hid hff
            clear h35 h32 hend hff
            cases fl with
            | false =>
              go_wp2_with fail
              refine (refParts_any s k false _ hks hs).mono ?_
              rintro e w' ⟨rfl, rfl⟩
              rw [HP.out]
              go_wp2
              go_round
              case rel => exact ⟨k - 1, E, by congr 1; omega, rfl, by omega, by omega, by omega, hEe, Lib.hid (by
                intro m a b
                by_cases e : m = k
                · rw [e]; exact HE.out
                · exact hno.out m (by omega) b)⟩
              case measure => simp [intOf]; omega
            | true =>
              go_wp2_with fail
              refine (refParts_any s k true _ hks hs).mono ?_
              rintro e w' ⟨rfl, rfl⟩
              rw [HP.out]
              go_wp2_with fail
              refine (refFlow_any _ _ (UInt8.toNat_lt _)).mono ?_
              rintro e w' ⟨rfl, rfl⟩
              rw [HF.out]
              go_wp2
              go_round
              case rel => exact ⟨k - 1, E, by congr 1; omega, rfl, by omega, by omega, by omega, hEe, Lib.hid (by
                intro m a b
                by_cases e : m = k
                · rw [e]; exact HE.out
                · exact hno.out m (by omega) b)⟩
              case measure => simp [intOf]; omega
        · have q1 : ((s[k].toNat : Int) == 35) = false := (ne_true (c := 35) hks h35).2
          cases fl with
          | false =>
            have HE := Lib.hid (hend.trans (show _ = false by simp [h35]))
            clear h35 hend
            go_wp2_with fail
            refine (refParts_any s k false _ hks hs).mono ?_
            rintro e w' ⟨rfl, rfl⟩
            rw [HP.out]
            go_wp2
            go_round
            case rel => exact ⟨k - 1, E, by congr 1; omega, rfl, by omega, by omega, by omega, hEe, Lib.hid (by
              intro m a b
              by_cases e : m = k
              · rw [e]; exact HE.out
              · exact hno.out m (by omega) b)⟩
            case measure => simp [intOf]; omega
          | true =>
            cases hf : flowB (bt s k) with
            | false =>
              have HE := Lib.hid (hend.trans (show _ = false by simp [h35, hf]))
              have HF := Lib.hid (show flowB (s[k].toNat) = false by rw [bt_get s k hks]; exact hf)
              clear h35 hend hf
              go_wp2_with fail
              refine (refParts_any s k true _ hks hs).mono ?_
              rintro e w' ⟨rfl, rfl⟩
              rw [HP.out]
              go_wp2_with fail
              refine (refFlow_any _ _ (UInt8.toNat_lt _)).mono ?_
              rintro e w' ⟨rfl, rfl⟩
              rw [HF.out]
              go_wp2
              go_round
              case rel => exact ⟨k - 1, E, by congr 1; omega, rfl, by omega, by omega, by omega, hEe, Lib.hid (by
                intro m a b
                by_cases e : m = k
                · rw [e]; exact HE.out
                · exact hno.out m (by omega) b)⟩
              case measure => simp [intOf]; omega
            | true =>
              have HE := Lib.hid (hend.trans (show _ = true by simp [h35, hf]))
              have HF := Lib.hid (show flowB (s[k].toNat) = true by rw [bt_get s k hks]; exact hf)
              clear h35 hend hf
              go_wp2_with fail
              refine (refParts_any s k true _ hks hs).mono ?_
              rintro e w' ⟨rfl, rfl⟩
              rw [HP.out]
              go_wp2_with fail
              refine (refFlow_any _ _ (UInt8.toNat_lt _)).mono ?_
              rintro e w' ⟨rfl, rfl⟩
              rw [HF.out]
              go_wp2
              go_round
              case rel => exact ⟨k - 1, k, by congr 1; omega, rfl, by omega, by omega, by omega, Lib.hid (.inr HE.out), Lib.hid (by intro m _ _; omega)⟩
              case measure => simp [intOf]; omega
    · have hki : k = i := by omega
      subst hki
      have hEq := Lib.hid (endOf_eq (fl := fl) hkE hE hEe.out hno.out)
      clear hno hEe
      go_wp2
      go_loop [8] (fun v => ∃ m : Nat, v = .int .i64 m ∧ k < m ∧ m ≤ E ∧ Hid (tr s m = tr s E)) (fun v => (intOf v).toNat)
      case atStart => exact ⟨E, rfl, hkE, by omega, Lib.hid rfl⟩
      case round =>
        obtain ⟨m, rfl, hm, hmE, htr⟩ := hrel
        have hm1 : m - 1 < s.size := by omega
        by_cases h32 : bt s (m - 1) = 32
        · have q2 : ((s[m - 1].toNat : Int) == 32) = true := (eq_true (c := 32) hm1 h32).2
          have hne : m - 1 ≠ k := by intro e; rw [e] at h32; exact hbl.out h32
          have HT := Lib.hid (show tr s (m - 1) = tr s E by rw [← htr.out]; exact (tr_step s m (by omega) h32).symm)
          clear h32
          go_wp2
          go_round
          case rel => exact ⟨m - 1, by congr 1; omega, by omega, by omega, HT⟩
          case measure => simp [intOf]; omega
        · have q2 : ((s[m - 1].toNat : Int) == 32) = false := (ne_true (c := 32) hm1 h32).2
          have HT := Lib.hid (show (m : Int) = (plainE s fl k : Int) by rw [plainE, hEq.out, ← htr.out, tr_stop s m (by omega) h32])
          clear h32
          go_wp2
          go_ret2
          exact ⟨ret_ib HT.out rfl, rfl⟩

set_option maxRecDepth 100000 in
set_option maxHeartbeats 8000000 in
theorem refYes_45f (s : ByteArray) (i : Nat) (w : World) (h : i < s.size) (hs : s.size ≤ 4000) (hc : Hid (bt s i = 45)) (hn : i + 1 < s.size) (hn2 : Hid (bt s (i + 1) ≠ 32)) (hbl : Hid (bt s i ≠ 32)) :
    Calls Tryz.prog 45 #[.string s, .int .i64 i, .bool false] w fun e w' => e = .returned (.tuple #[.int .i64 (plainE s false i), .bool true]) ∧ w = w' := by
  have k1 : ((s[i].toNat : Int) == 32) = false := (ne_true (c := 32) h hbl.out).2
  have z1 : decide ((i : Int) < 0) = false := by simp
  have z2 : decide (s.size ≤ i) = false := by simp; omega
  have HO := Lib.hid (show opensB (s[i].toNat) = true by rw [bt_get s i h, hc.out]; decide)
  have jj : ((s[i].toNat : Int) != 45) = false := (eq_true (c := 45) h hc.out).1
  have k4 : ((i : Int) == (s.size : Int) - 1) = false := by simp; omega
  have k6 : ((s[i + 1].toNat : Int) == 32) = false := (ne_true (c := 32) hn hn2.out).2
  go_enter Tryz.func45, Tryz.ntmps45
  go_wp2_with fail
  refine (refOpens_any _ _ (UInt8.toNat_lt _)).mono ?_
  rintro e w' ⟨rfl, rfl⟩
  rw [HO.out]
  go_wp2
  go_loop [8, 9] (fun v j => ∃ k E : Nat, j = .int .i64 k ∧ v = .int .i64 E ∧ i ≤ k ∧ k < E ∧ E ≤ s.size ∧ Hid (E = s.size ∨ endsB s E false = true) ∧ Hid (∀ m, k < m → m < E → endsB s m false = false)) (fun _ j => (intOf j).toNat)
  case atStart => exact ⟨s.size - 1, s.size, by congr 1; omega, rfl, by omega, by omega, by omega, Lib.hid (.inl rfl), Lib.hid (by intro m _ _; omega)⟩
  case round =>
    obtain ⟨k, E, rfl, rfl, hk, hkE, hE, hEe, hno⟩ := hrel
    by_cases hlt : i < k
    · have hks : k < s.size := by omega
      have hk1 : k - 1 < s.size := by omega
      cases hpb : partsB s k false with
      | true =>
        have HP := Lib.hid hpb
        have HE := Lib.hid (parts_ends hpb)
        clear hpb
        go_wp2_with fail
        refine (refParts_any s k false _ hks hs).mono ?_
        rintro e w' ⟨rfl, rfl⟩
        rw [HP.out]
        go_wp2
        go_round
        case rel => exact ⟨k - 1, k, by congr 1; omega, rfl, by omega, by omega, by omega, Lib.hid (.inr HE.out), Lib.hid (by intro m _ _; omega)⟩
        case measure => simp [intOf]; omega
      | false =>
        have HP := Lib.hid hpb
        have hend := ends_rest (fl := false) hpb
        clear hpb
        by_cases h35 : bt s k = 35
        · have q1 : ((s[k].toNat : Int) == 35) = true := (eq_true (c := 35) hks h35).2
          by_cases h32 : bt s (k - 1) = 32
          · have q2 : ((s[k - 1].toNat : Int) == 32) = true := (eq_true (c := 32) hk1 h32).2
            have HE := Lib.hid (hend.trans (show _ = true by simp [h35, h32]))
            clear h35 h32 hend
            go_wp2_with fail
            refine (refParts_any s k false _ hks hs).mono ?_
            rintro e w' ⟨rfl, rfl⟩
            rw [HP.out]
            go_wp2
            go_round
            case rel => exact ⟨k - 1, k, by congr 1; omega, rfl, by omega, by omega, by omega, Lib.hid (.inr HE.out), Lib.hid (by intro m _ _; omega)⟩
            case measure => simp [intOf]; omega
          · have q2 : ((s[k - 1].toNat : Int) == 32) = false := (ne_true (c := 32) hk1 h32).2
            have HE := Lib.hid (hend.trans (show _ = false by simp [h35, h32]))
            have hff : flowB (s[k].toNat) = false := by rw [bt_get s k hks, h35]; decide
            have HF := Lib.hid hff
            clear h35 h32 hend hff
            go_wp2_with fail
            refine (refParts_any s k false _ hks hs).mono ?_
            rintro e w' ⟨rfl, rfl⟩
            rw [HP.out]
            go_wp2
            go_round
            case rel => exact ⟨k - 1, E, by congr 1; omega, rfl, by omega, by omega, by omega, hEe, Lib.hid (by
              intro m a b
              by_cases e : m = k
              · rw [e]; exact HE.out
              · exact hno.out m (by omega) b)⟩
            case measure => simp [intOf]; omega
        · have q1 : ((s[k].toNat : Int) == 35) = false := (ne_true (c := 35) hks h35).2
          have HE := Lib.hid (hend.trans (show _ = false by simp [h35]))
          clear h35 hend
          go_wp2_with fail
          refine (refParts_any s k false _ hks hs).mono ?_
          rintro e w' ⟨rfl, rfl⟩
          rw [HP.out]
          go_wp2
          go_round
          case rel => exact ⟨k - 1, E, by congr 1; omega, rfl, by omega, by omega, by omega, hEe, Lib.hid (by
            intro m a b
            by_cases e : m = k
            · rw [e]; exact HE.out
            · exact hno.out m (by omega) b)⟩
          case measure => simp [intOf]; omega
    · have hki : k = i := by omega
      subst hki
      have hEq := Lib.hid (endOf_eq (fl := false) hkE hE hEe.out hno.out)
      clear hno hEe
      go_wp2
      go_loop [8] (fun v => ∃ m : Nat, v = .int .i64 m ∧ k < m ∧ m ≤ E ∧ Hid (tr s m = tr s E)) (fun v => (intOf v).toNat)
      case atStart => exact ⟨E, rfl, hkE, by omega, Lib.hid rfl⟩
      case round =>
        obtain ⟨m, rfl, hm, hmE, htr⟩ := hrel
        have hm1 : m - 1 < s.size := by omega
        by_cases h32 : bt s (m - 1) = 32
        · have q2 : ((s[m - 1].toNat : Int) == 32) = true := (eq_true (c := 32) hm1 h32).2
          have hne : m - 1 ≠ k := by intro e; rw [e] at h32; exact hbl.out h32
          have HT := Lib.hid (show tr s (m - 1) = tr s E by rw [← htr.out]; exact (tr_step s m (by omega) h32).symm)
          clear h32
          go_wp2
          go_round
          case rel => exact ⟨m - 1, by congr 1; omega, by omega, by omega, HT⟩
          case measure => simp [intOf]; omega
        · have q2 : ((s[m - 1].toNat : Int) == 32) = false := (ne_true (c := 32) hm1 h32).2
          have HT := Lib.hid (show (m : Int) = (plainE s false k : Int) by rw [plainE, hEq.out, ← htr.out, tr_stop s m (by omega) h32])
          clear h32
          go_wp2
          go_ret2
          exact ⟨ret_ib HT.out rfl, rfl⟩

set_option maxRecDepth 100000 in
set_option maxHeartbeats 8000000 in
theorem refYes_45t (s : ByteArray) (i : Nat) (w : World) (h : i < s.size) (hs : s.size ≤ 4000) (hc : Hid (bt s i = 45)) (hn : i + 1 < s.size) (hn2 : Hid (bt s (i + 1) ≠ 32)) (hf : Hid (flowB (bt s (i + 1)) = false)) (hbl : Hid (bt s i ≠ 32)) :
    Calls Tryz.prog 45 #[.string s, .int .i64 i, .bool true] w fun e w' => e = .returned (.tuple #[.int .i64 (plainE s true i), .bool true]) ∧ w = w' := by
  have k1 : ((s[i].toNat : Int) == 32) = false := (ne_true (c := 32) h hbl.out).2
  have z1 : decide ((i : Int) < 0) = false := by simp
  have z2 : decide (s.size ≤ i) = false := by simp; omega
  have HO := Lib.hid (show opensB (s[i].toNat) = true by rw [bt_get s i h, hc.out]; decide)
  have jj : ((s[i].toNat : Int) != 45) = false := (eq_true (c := 45) h hc.out).1
  have k4 : ((i : Int) == (s.size : Int) - 1) = false := by simp; omega
  have k6 : ((s[i + 1].toNat : Int) == 32) = false := (ne_true (c := 32) hn hn2.out).2
  have HN := Lib.hid (show flowB (s[i + 1].toNat) = false by rw [bt_get s (i + 1) hn]; exact hf.out)
  go_enter Tryz.func45, Tryz.ntmps45
  go_wp2_with fail
  refine (refOpens_any _ _ (UInt8.toNat_lt _)).mono ?_
  rintro e w' ⟨rfl, rfl⟩
  rw [HO.out]
  go_wp2_with fail
  refine (refFlow_any _ _ (UInt8.toNat_lt _)).mono ?_
  rintro e w' ⟨rfl, rfl⟩
  rw [HN.out]
  go_wp2
  go_loop [8, 9] (fun v j => ∃ k E : Nat, j = .int .i64 k ∧ v = .int .i64 E ∧ i ≤ k ∧ k < E ∧ E ≤ s.size ∧ Hid (E = s.size ∨ endsB s E true = true) ∧ Hid (∀ m, k < m → m < E → endsB s m true = false)) (fun _ j => (intOf j).toNat)
  case atStart => exact ⟨s.size - 1, s.size, by congr 1; omega, rfl, by omega, by omega, by omega, Lib.hid (.inl rfl), Lib.hid (by intro m _ _; omega)⟩
  case round =>
    obtain ⟨k, E, rfl, rfl, hk, hkE, hE, hEe, hno⟩ := hrel
    by_cases hlt : i < k
    · have hks : k < s.size := by omega
      have hk1 : k - 1 < s.size := by omega
      cases hpb : partsB s k true with
      | true =>
        have HP := Lib.hid hpb
        have HE := Lib.hid (parts_ends hpb)
        clear hpb
        go_wp2_with fail
        refine (refParts_any s k true _ hks hs).mono ?_
        rintro e w' ⟨rfl, rfl⟩
        rw [HP.out]
        go_wp2
        go_round
        case rel => exact ⟨k - 1, k, by congr 1; omega, rfl, by omega, by omega, by omega, Lib.hid (.inr HE.out), Lib.hid (by intro m _ _; omega)⟩
        case measure => simp [intOf]; omega
      | false =>
        have HP := Lib.hid hpb
        have hend := ends_rest (fl := true) hpb
        clear hpb
        by_cases h35 : bt s k = 35
        · have q1 : ((s[k].toNat : Int) == 35) = true := (eq_true (c := 35) hks h35).2
          by_cases h32 : bt s (k - 1) = 32
          · have q2 : ((s[k - 1].toNat : Int) == 32) = true := (eq_true (c := 32) hk1 h32).2
            have HE := Lib.hid (hend.trans (show _ = true by simp [h35, h32]))
            clear h35 h32 hend
            go_wp2_with fail
            refine (refParts_any s k true _ hks hs).mono ?_
            rintro e w' ⟨rfl, rfl⟩
            rw [HP.out]
            go_wp2
            go_round
            case rel => exact ⟨k - 1, k, by congr 1; omega, rfl, by omega, by omega, by omega, Lib.hid (.inr HE.out), Lib.hid (by intro m _ _; omega)⟩
            case measure => simp [intOf]; omega
          · have q2 : ((s[k - 1].toNat : Int) == 32) = false := (ne_true (c := 32) hk1 h32).2
            have HE := Lib.hid (hend.trans (show _ = false by simp [h35, h32]))
            have hff : flowB (s[k].toNat) = false := by rw [bt_get s k hks, h35]; decide
            have HF := Lib.hid hff
            clear h35 h32 hend hff
            go_wp2_with fail
            refine (refParts_any s k true _ hks hs).mono ?_
            rintro e w' ⟨rfl, rfl⟩
            rw [HP.out]
            go_wp2_with fail
            refine (refFlow_any _ _ (UInt8.toNat_lt _)).mono ?_
            rintro e w' ⟨rfl, rfl⟩
            rw [HF.out]
            go_wp2
            go_round
            case rel => exact ⟨k - 1, E, by congr 1; omega, rfl, by omega, by omega, by omega, hEe, Lib.hid (by
              intro m a b
              by_cases e : m = k
              · rw [e]; exact HE.out
              · exact hno.out m (by omega) b)⟩
            case measure => simp [intOf]; omega
        · have q1 : ((s[k].toNat : Int) == 35) = false := (ne_true (c := 35) hks h35).2
          cases hf : flowB (bt s k) with
          | false =>
            have HE := Lib.hid (hend.trans (show _ = false by simp [h35, hf]))
            have HF := Lib.hid (show flowB (s[k].toNat) = false by rw [bt_get s k hks]; exact hf)
            clear h35 hend hf
            go_wp2_with fail
            refine (refParts_any s k true _ hks hs).mono ?_
            rintro e w' ⟨rfl, rfl⟩
            rw [HP.out]
            go_wp2_with fail
            refine (refFlow_any _ _ (UInt8.toNat_lt _)).mono ?_
            rintro e w' ⟨rfl, rfl⟩
            rw [HF.out]
            go_wp2
            go_round
            case rel => exact ⟨k - 1, E, by congr 1; omega, rfl, by omega, by omega, by omega, hEe, Lib.hid (by
              intro m a b
              by_cases e : m = k
              · rw [e]; exact HE.out
              · exact hno.out m (by omega) b)⟩
            case measure => simp [intOf]; omega
          | true =>
            have HE := Lib.hid (hend.trans (show _ = true by simp [h35, hf]))
            have HF := Lib.hid (show flowB (s[k].toNat) = true by rw [bt_get s k hks]; exact hf)
            clear h35 hend hf
            go_wp2_with fail
            refine (refParts_any s k true _ hks hs).mono ?_
            rintro e w' ⟨rfl, rfl⟩
            rw [HP.out]
            go_wp2_with fail
            refine (refFlow_any _ _ (UInt8.toNat_lt _)).mono ?_
            rintro e w' ⟨rfl, rfl⟩
            rw [HF.out]
            go_wp2
            go_round
            case rel => exact ⟨k - 1, k, by congr 1; omega, rfl, by omega, by omega, by omega, Lib.hid (.inr HE.out), Lib.hid (by intro m _ _; omega)⟩
            case measure => simp [intOf]; omega
    · have hki : k = i := by omega
      subst hki
      have hEq := Lib.hid (endOf_eq (fl := true) hkE hE hEe.out hno.out)
      clear hno hEe
      go_wp2
      go_loop [8] (fun v => ∃ m : Nat, v = .int .i64 m ∧ k < m ∧ m ≤ E ∧ Hid (tr s m = tr s E)) (fun v => (intOf v).toNat)
      case atStart => exact ⟨E, rfl, hkE, by omega, Lib.hid rfl⟩
      case round =>
        obtain ⟨m, rfl, hm, hmE, htr⟩ := hrel
        have hm1 : m - 1 < s.size := by omega
        by_cases h32 : bt s (m - 1) = 32
        · have q2 : ((s[m - 1].toNat : Int) == 32) = true := (eq_true (c := 32) hm1 h32).2
          have hne : m - 1 ≠ k := by intro e; rw [e] at h32; exact hbl.out h32
          have HT := Lib.hid (show tr s (m - 1) = tr s E by rw [← htr.out]; exact (tr_step s m (by omega) h32).symm)
          clear h32
          go_wp2
          go_round
          case rel => exact ⟨m - 1, by congr 1; omega, by omega, by omega, HT⟩
          case measure => simp [intOf]; omega
        · have q2 : ((s[m - 1].toNat : Int) == 32) = false := (ne_true (c := 32) hm1 h32).2
          have HT := Lib.hid (show (m : Int) = (plainE s true k : Int) by rw [plainE, hEq.out, ← htr.out, tr_stop s m (by omega) h32])
          clear h32
          go_wp2
          go_ret2
          exact ⟨ret_ib HT.out rfl, rfl⟩

set_option maxRecDepth 100000 in
set_option maxHeartbeats 8000000 in
theorem refYes_63f (s : ByteArray) (i : Nat) (w : World) (h : i < s.size) (hs : s.size ≤ 4000) (hc : Hid (bt s i = 63)) (hn : i + 1 < s.size) (hn2 : Hid (bt s (i + 1) ≠ 32)) (hbl : Hid (bt s i ≠ 32)) :
    Calls Tryz.prog 45 #[.string s, .int .i64 i, .bool false] w fun e w' => e = .returned (.tuple #[.int .i64 (plainE s false i), .bool true]) ∧ w = w' := by
  have k1 : ((s[i].toNat : Int) == 32) = false := (ne_true (c := 32) h hbl.out).2
  have z1 : decide ((i : Int) < 0) = false := by simp
  have z2 : decide (s.size ≤ i) = false := by simp; omega
  have HO := Lib.hid (show opensB (s[i].toNat) = true by rw [bt_get s i h, hc.out]; decide)
  have j0 : ((s[i].toNat : Int) != 45) = true := (ne_true (c := 45) h (by rw [hc.out]; decide)).1
  have jj : ((s[i].toNat : Int) != 63) = false := (eq_true (c := 63) h hc.out).1
  have k4 : ((i : Int) == (s.size : Int) - 1) = false := by simp; omega
  have k6 : ((s[i + 1].toNat : Int) == 32) = false := (ne_true (c := 32) hn hn2.out).2
  go_enter Tryz.func45, Tryz.ntmps45
  go_wp2_with fail
  refine (refOpens_any _ _ (UInt8.toNat_lt _)).mono ?_
  rintro e w' ⟨rfl, rfl⟩
  rw [HO.out]
  go_wp2
  go_loop [8, 9] (fun v j => ∃ k E : Nat, j = .int .i64 k ∧ v = .int .i64 E ∧ i ≤ k ∧ k < E ∧ E ≤ s.size ∧ Hid (E = s.size ∨ endsB s E false = true) ∧ Hid (∀ m, k < m → m < E → endsB s m false = false)) (fun _ j => (intOf j).toNat)
  case atStart => exact ⟨s.size - 1, s.size, by congr 1; omega, rfl, by omega, by omega, by omega, Lib.hid (.inl rfl), Lib.hid (by intro m _ _; omega)⟩
  case round =>
    obtain ⟨k, E, rfl, rfl, hk, hkE, hE, hEe, hno⟩ := hrel
    by_cases hlt : i < k
    · have hks : k < s.size := by omega
      have hk1 : k - 1 < s.size := by omega
      cases hpb : partsB s k false with
      | true =>
        have HP := Lib.hid hpb
        have HE := Lib.hid (parts_ends hpb)
        clear hpb
        go_wp2_with fail
        refine (refParts_any s k false _ hks hs).mono ?_
        rintro e w' ⟨rfl, rfl⟩
        rw [HP.out]
        go_wp2
        go_round
        case rel => exact ⟨k - 1, k, by congr 1; omega, rfl, by omega, by omega, by omega, Lib.hid (.inr HE.out), Lib.hid (by intro m _ _; omega)⟩
        case measure => simp [intOf]; omega
      | false =>
        have HP := Lib.hid hpb
        have hend := ends_rest (fl := false) hpb
        clear hpb
        by_cases h35 : bt s k = 35
        · have q1 : ((s[k].toNat : Int) == 35) = true := (eq_true (c := 35) hks h35).2
          by_cases h32 : bt s (k - 1) = 32
          · have q2 : ((s[k - 1].toNat : Int) == 32) = true := (eq_true (c := 32) hk1 h32).2
            have HE := Lib.hid (hend.trans (show _ = true by simp [h35, h32]))
            clear h35 h32 hend
            go_wp2_with fail
            refine (refParts_any s k false _ hks hs).mono ?_
            rintro e w' ⟨rfl, rfl⟩
            rw [HP.out]
            go_wp2
            go_round
            case rel => exact ⟨k - 1, k, by congr 1; omega, rfl, by omega, by omega, by omega, Lib.hid (.inr HE.out), Lib.hid (by intro m _ _; omega)⟩
            case measure => simp [intOf]; omega
          · have q2 : ((s[k - 1].toNat : Int) == 32) = false := (ne_true (c := 32) hk1 h32).2
            have HE := Lib.hid (hend.trans (show _ = false by simp [h35, h32]))
            have hff : flowB (s[k].toNat) = false := by rw [bt_get s k hks, h35]; decide
            have HF := Lib.hid hff
            clear h35 h32 hend hff
            go_wp2_with fail
            refine (refParts_any s k false _ hks hs).mono ?_
            rintro e w' ⟨rfl, rfl⟩
            rw [HP.out]
            go_wp2
            go_round
            case rel => exact ⟨k - 1, E, by congr 1; omega, rfl, by omega, by omega, by omega, hEe, Lib.hid (by
              intro m a b
              by_cases e : m = k
              · rw [e]; exact HE.out
              · exact hno.out m (by omega) b)⟩
            case measure => simp [intOf]; omega
        · have q1 : ((s[k].toNat : Int) == 35) = false := (ne_true (c := 35) hks h35).2
          have HE := Lib.hid (hend.trans (show _ = false by simp [h35]))
          clear h35 hend
          go_wp2_with fail
          refine (refParts_any s k false _ hks hs).mono ?_
          rintro e w' ⟨rfl, rfl⟩
          rw [HP.out]
          go_wp2
          go_round
          case rel => exact ⟨k - 1, E, by congr 1; omega, rfl, by omega, by omega, by omega, hEe, Lib.hid (by
            intro m a b
            by_cases e : m = k
            · rw [e]; exact HE.out
            · exact hno.out m (by omega) b)⟩
          case measure => simp [intOf]; omega
    · have hki : k = i := by omega
      subst hki
      have hEq := Lib.hid (endOf_eq (fl := false) hkE hE hEe.out hno.out)
      clear hno hEe
      go_wp2
      go_loop [8] (fun v => ∃ m : Nat, v = .int .i64 m ∧ k < m ∧ m ≤ E ∧ Hid (tr s m = tr s E)) (fun v => (intOf v).toNat)
      case atStart => exact ⟨E, rfl, hkE, by omega, Lib.hid rfl⟩
      case round =>
        obtain ⟨m, rfl, hm, hmE, htr⟩ := hrel
        have hm1 : m - 1 < s.size := by omega
        by_cases h32 : bt s (m - 1) = 32
        · have q2 : ((s[m - 1].toNat : Int) == 32) = true := (eq_true (c := 32) hm1 h32).2
          have hne : m - 1 ≠ k := by intro e; rw [e] at h32; exact hbl.out h32
          have HT := Lib.hid (show tr s (m - 1) = tr s E by rw [← htr.out]; exact (tr_step s m (by omega) h32).symm)
          clear h32
          go_wp2
          go_round
          case rel => exact ⟨m - 1, by congr 1; omega, by omega, by omega, HT⟩
          case measure => simp [intOf]; omega
        · have q2 : ((s[m - 1].toNat : Int) == 32) = false := (ne_true (c := 32) hm1 h32).2
          have HT := Lib.hid (show (m : Int) = (plainE s false k : Int) by rw [plainE, hEq.out, ← htr.out, tr_stop s m (by omega) h32])
          clear h32
          go_wp2
          go_ret2
          exact ⟨ret_ib HT.out rfl, rfl⟩

set_option maxRecDepth 100000 in
set_option maxHeartbeats 8000000 in
theorem refYes_63t (s : ByteArray) (i : Nat) (w : World) (h : i < s.size) (hs : s.size ≤ 4000) (hc : Hid (bt s i = 63)) (hn : i + 1 < s.size) (hn2 : Hid (bt s (i + 1) ≠ 32)) (hf : Hid (flowB (bt s (i + 1)) = false)) (hbl : Hid (bt s i ≠ 32)) :
    Calls Tryz.prog 45 #[.string s, .int .i64 i, .bool true] w fun e w' => e = .returned (.tuple #[.int .i64 (plainE s true i), .bool true]) ∧ w = w' := by
  have k1 : ((s[i].toNat : Int) == 32) = false := (ne_true (c := 32) h hbl.out).2
  have z1 : decide ((i : Int) < 0) = false := by simp
  have z2 : decide (s.size ≤ i) = false := by simp; omega
  have HO := Lib.hid (show opensB (s[i].toNat) = true by rw [bt_get s i h, hc.out]; decide)
  have j0 : ((s[i].toNat : Int) != 45) = true := (ne_true (c := 45) h (by rw [hc.out]; decide)).1
  have jj : ((s[i].toNat : Int) != 63) = false := (eq_true (c := 63) h hc.out).1
  have k4 : ((i : Int) == (s.size : Int) - 1) = false := by simp; omega
  have k6 : ((s[i + 1].toNat : Int) == 32) = false := (ne_true (c := 32) hn hn2.out).2
  have HN := Lib.hid (show flowB (s[i + 1].toNat) = false by rw [bt_get s (i + 1) hn]; exact hf.out)
  go_enter Tryz.func45, Tryz.ntmps45
  go_wp2_with fail
  refine (refOpens_any _ _ (UInt8.toNat_lt _)).mono ?_
  rintro e w' ⟨rfl, rfl⟩
  rw [HO.out]
  go_wp2_with fail
  refine (refFlow_any _ _ (UInt8.toNat_lt _)).mono ?_
  rintro e w' ⟨rfl, rfl⟩
  rw [HN.out]
  go_wp2
  go_loop [8, 9] (fun v j => ∃ k E : Nat, j = .int .i64 k ∧ v = .int .i64 E ∧ i ≤ k ∧ k < E ∧ E ≤ s.size ∧ Hid (E = s.size ∨ endsB s E true = true) ∧ Hid (∀ m, k < m → m < E → endsB s m true = false)) (fun _ j => (intOf j).toNat)
  case atStart => exact ⟨s.size - 1, s.size, by congr 1; omega, rfl, by omega, by omega, by omega, Lib.hid (.inl rfl), Lib.hid (by intro m _ _; omega)⟩
  case round =>
    obtain ⟨k, E, rfl, rfl, hk, hkE, hE, hEe, hno⟩ := hrel
    by_cases hlt : i < k
    · have hks : k < s.size := by omega
      have hk1 : k - 1 < s.size := by omega
      cases hpb : partsB s k true with
      | true =>
        have HP := Lib.hid hpb
        have HE := Lib.hid (parts_ends hpb)
        clear hpb
        go_wp2_with fail
        refine (refParts_any s k true _ hks hs).mono ?_
        rintro e w' ⟨rfl, rfl⟩
        rw [HP.out]
        go_wp2
        go_round
        case rel => exact ⟨k - 1, k, by congr 1; omega, rfl, by omega, by omega, by omega, Lib.hid (.inr HE.out), Lib.hid (by intro m _ _; omega)⟩
        case measure => simp [intOf]; omega
      | false =>
        have HP := Lib.hid hpb
        have hend := ends_rest (fl := true) hpb
        clear hpb
        by_cases h35 : bt s k = 35
        · have q1 : ((s[k].toNat : Int) == 35) = true := (eq_true (c := 35) hks h35).2
          by_cases h32 : bt s (k - 1) = 32
          · have q2 : ((s[k - 1].toNat : Int) == 32) = true := (eq_true (c := 32) hk1 h32).2
            have HE := Lib.hid (hend.trans (show _ = true by simp [h35, h32]))
            clear h35 h32 hend
            go_wp2_with fail
            refine (refParts_any s k true _ hks hs).mono ?_
            rintro e w' ⟨rfl, rfl⟩
            rw [HP.out]
            go_wp2
            go_round
            case rel => exact ⟨k - 1, k, by congr 1; omega, rfl, by omega, by omega, by omega, Lib.hid (.inr HE.out), Lib.hid (by intro m _ _; omega)⟩
            case measure => simp [intOf]; omega
          · have q2 : ((s[k - 1].toNat : Int) == 32) = false := (ne_true (c := 32) hk1 h32).2
            have HE := Lib.hid (hend.trans (show _ = false by simp [h35, h32]))
            have hff : flowB (s[k].toNat) = false := by rw [bt_get s k hks, h35]; decide
            have HF := Lib.hid hff
            clear h35 h32 hend hff
            go_wp2_with fail
            refine (refParts_any s k true _ hks hs).mono ?_
            rintro e w' ⟨rfl, rfl⟩
            rw [HP.out]
            go_wp2_with fail
            refine (refFlow_any _ _ (UInt8.toNat_lt _)).mono ?_
            rintro e w' ⟨rfl, rfl⟩
            rw [HF.out]
            go_wp2
            go_round
            case rel => exact ⟨k - 1, E, by congr 1; omega, rfl, by omega, by omega, by omega, hEe, Lib.hid (by
              intro m a b
              by_cases e : m = k
              · rw [e]; exact HE.out
              · exact hno.out m (by omega) b)⟩
            case measure => simp [intOf]; omega
        · have q1 : ((s[k].toNat : Int) == 35) = false := (ne_true (c := 35) hks h35).2
          cases hf : flowB (bt s k) with
          | false =>
            have HE := Lib.hid (hend.trans (show _ = false by simp [h35, hf]))
            have HF := Lib.hid (show flowB (s[k].toNat) = false by rw [bt_get s k hks]; exact hf)
            clear h35 hend hf
            go_wp2_with fail
            refine (refParts_any s k true _ hks hs).mono ?_
            rintro e w' ⟨rfl, rfl⟩
            rw [HP.out]
            go_wp2_with fail
            refine (refFlow_any _ _ (UInt8.toNat_lt _)).mono ?_
            rintro e w' ⟨rfl, rfl⟩
            rw [HF.out]
            go_wp2
            go_round
            case rel => exact ⟨k - 1, E, by congr 1; omega, rfl, by omega, by omega, by omega, hEe, Lib.hid (by
              intro m a b
              by_cases e : m = k
              · rw [e]; exact HE.out
              · exact hno.out m (by omega) b)⟩
            case measure => simp [intOf]; omega
          | true =>
            have HE := Lib.hid (hend.trans (show _ = true by simp [h35, hf]))
            have HF := Lib.hid (show flowB (s[k].toNat) = true by rw [bt_get s k hks]; exact hf)
            clear h35 hend hf
            go_wp2_with fail
            refine (refParts_any s k true _ hks hs).mono ?_
            rintro e w' ⟨rfl, rfl⟩
            rw [HP.out]
            go_wp2_with fail
            refine (refFlow_any _ _ (UInt8.toNat_lt _)).mono ?_
            rintro e w' ⟨rfl, rfl⟩
            rw [HF.out]
            go_wp2
            go_round
            case rel => exact ⟨k - 1, k, by congr 1; omega, rfl, by omega, by omega, by omega, Lib.hid (.inr HE.out), Lib.hid (by intro m _ _; omega)⟩
            case measure => simp [intOf]; omega
    · have hki : k = i := by omega
      subst hki
      have hEq := Lib.hid (endOf_eq (fl := true) hkE hE hEe.out hno.out)
      clear hno hEe
      go_wp2
      go_loop [8] (fun v => ∃ m : Nat, v = .int .i64 m ∧ k < m ∧ m ≤ E ∧ Hid (tr s m = tr s E)) (fun v => (intOf v).toNat)
      case atStart => exact ⟨E, rfl, hkE, by omega, Lib.hid rfl⟩
      case round =>
        obtain ⟨m, rfl, hm, hmE, htr⟩ := hrel
        have hm1 : m - 1 < s.size := by omega
        by_cases h32 : bt s (m - 1) = 32
        · have q2 : ((s[m - 1].toNat : Int) == 32) = true := (eq_true (c := 32) hm1 h32).2
          have hne : m - 1 ≠ k := by intro e; rw [e] at h32; exact hbl.out h32
          have HT := Lib.hid (show tr s (m - 1) = tr s E by rw [← htr.out]; exact (tr_step s m (by omega) h32).symm)
          clear h32
          go_wp2
          go_round
          case rel => exact ⟨m - 1, by congr 1; omega, by omega, by omega, HT⟩
          case measure => simp [intOf]; omega
        · have q2 : ((s[m - 1].toNat : Int) == 32) = false := (ne_true (c := 32) hm1 h32).2
          have HT := Lib.hid (show (m : Int) = (plainE s true k : Int) by rw [plainE, hEq.out, ← htr.out, tr_stop s m (by omega) h32])
          clear h32
          go_wp2
          go_ret2
          exact ⟨ret_ib HT.out rfl, rfl⟩

set_option maxRecDepth 100000 in
set_option maxHeartbeats 8000000 in
theorem refYes_58f (s : ByteArray) (i : Nat) (w : World) (h : i < s.size) (hs : s.size ≤ 4000) (hc : Hid (bt s i = 58)) (hn : i + 1 < s.size) (hn2 : Hid (bt s (i + 1) ≠ 32)) (hbl : Hid (bt s i ≠ 32)) :
    Calls Tryz.prog 45 #[.string s, .int .i64 i, .bool false] w fun e w' => e = .returned (.tuple #[.int .i64 (plainE s false i), .bool true]) ∧ w = w' := by
  have k1 : ((s[i].toNat : Int) == 32) = false := (ne_true (c := 32) h hbl.out).2
  have z1 : decide ((i : Int) < 0) = false := by simp
  have z2 : decide (s.size ≤ i) = false := by simp; omega
  have HO := Lib.hid (show opensB (s[i].toNat) = true by rw [bt_get s i h, hc.out]; decide)
  have j0 : ((s[i].toNat : Int) != 45) = true := (ne_true (c := 45) h (by rw [hc.out]; decide)).1
  have j1 : ((s[i].toNat : Int) != 63) = true := (ne_true (c := 63) h (by rw [hc.out]; decide)).1
  have jj : ((s[i].toNat : Int) != 58) = false := (eq_true (c := 58) h hc.out).1
  have k4 : ((i : Int) == (s.size : Int) - 1) = false := by simp; omega
  have k6 : ((s[i + 1].toNat : Int) == 32) = false := (ne_true (c := 32) hn hn2.out).2
  go_enter Tryz.func45, Tryz.ntmps45
  go_wp2_with fail
  refine (refOpens_any _ _ (UInt8.toNat_lt _)).mono ?_
  rintro e w' ⟨rfl, rfl⟩
  rw [HO.out]
  go_wp2
  go_loop [8, 9] (fun v j => ∃ k E : Nat, j = .int .i64 k ∧ v = .int .i64 E ∧ i ≤ k ∧ k < E ∧ E ≤ s.size ∧ Hid (E = s.size ∨ endsB s E false = true) ∧ Hid (∀ m, k < m → m < E → endsB s m false = false)) (fun _ j => (intOf j).toNat)
  case atStart => exact ⟨s.size - 1, s.size, by congr 1; omega, rfl, by omega, by omega, by omega, Lib.hid (.inl rfl), Lib.hid (by intro m _ _; omega)⟩
  case round =>
    obtain ⟨k, E, rfl, rfl, hk, hkE, hE, hEe, hno⟩ := hrel
    by_cases hlt : i < k
    · have hks : k < s.size := by omega
      have hk1 : k - 1 < s.size := by omega
      cases hpb : partsB s k false with
      | true =>
        have HP := Lib.hid hpb
        have HE := Lib.hid (parts_ends hpb)
        clear hpb
        go_wp2_with fail
        refine (refParts_any s k false _ hks hs).mono ?_
        rintro e w' ⟨rfl, rfl⟩
        rw [HP.out]
        go_wp2
        go_round
        case rel => exact ⟨k - 1, k, by congr 1; omega, rfl, by omega, by omega, by omega, Lib.hid (.inr HE.out), Lib.hid (by intro m _ _; omega)⟩
        case measure => simp [intOf]; omega
      | false =>
        have HP := Lib.hid hpb
        have hend := ends_rest (fl := false) hpb
        clear hpb
        by_cases h35 : bt s k = 35
        · have q1 : ((s[k].toNat : Int) == 35) = true := (eq_true (c := 35) hks h35).2
          by_cases h32 : bt s (k - 1) = 32
          · have q2 : ((s[k - 1].toNat : Int) == 32) = true := (eq_true (c := 32) hk1 h32).2
            have HE := Lib.hid (hend.trans (show _ = true by simp [h35, h32]))
            clear h35 h32 hend
            go_wp2_with fail
            refine (refParts_any s k false _ hks hs).mono ?_
            rintro e w' ⟨rfl, rfl⟩
            rw [HP.out]
            go_wp2
            go_round
            case rel => exact ⟨k - 1, k, by congr 1; omega, rfl, by omega, by omega, by omega, Lib.hid (.inr HE.out), Lib.hid (by intro m _ _; omega)⟩
            case measure => simp [intOf]; omega
          · have q2 : ((s[k - 1].toNat : Int) == 32) = false := (ne_true (c := 32) hk1 h32).2
            have HE := Lib.hid (hend.trans (show _ = false by simp [h35, h32]))
            have hff : flowB (s[k].toNat) = false := by rw [bt_get s k hks, h35]; decide
            have HF := Lib.hid hff
            clear h35 h32 hend hff
            go_wp2_with fail
            refine (refParts_any s k false _ hks hs).mono ?_
            rintro e w' ⟨rfl, rfl⟩
            rw [HP.out]
            go_wp2
            go_round
            case rel => exact ⟨k - 1, E, by congr 1; omega, rfl, by omega, by omega, by omega, hEe, Lib.hid (by
              intro m a b
              by_cases e : m = k
              · rw [e]; exact HE.out
              · exact hno.out m (by omega) b)⟩
            case measure => simp [intOf]; omega
        · have q1 : ((s[k].toNat : Int) == 35) = false := (ne_true (c := 35) hks h35).2
          have HE := Lib.hid (hend.trans (show _ = false by simp [h35]))
          clear h35 hend
          go_wp2_with fail
          refine (refParts_any s k false _ hks hs).mono ?_
          rintro e w' ⟨rfl, rfl⟩
          rw [HP.out]
          go_wp2
          go_round
          case rel => exact ⟨k - 1, E, by congr 1; omega, rfl, by omega, by omega, by omega, hEe, Lib.hid (by
            intro m a b
            by_cases e : m = k
            · rw [e]; exact HE.out
            · exact hno.out m (by omega) b)⟩
          case measure => simp [intOf]; omega
    · have hki : k = i := by omega
      subst hki
      have hEq := Lib.hid (endOf_eq (fl := false) hkE hE hEe.out hno.out)
      clear hno hEe
      go_wp2
      go_loop [8] (fun v => ∃ m : Nat, v = .int .i64 m ∧ k < m ∧ m ≤ E ∧ Hid (tr s m = tr s E)) (fun v => (intOf v).toNat)
      case atStart => exact ⟨E, rfl, hkE, by omega, Lib.hid rfl⟩
      case round =>
        obtain ⟨m, rfl, hm, hmE, htr⟩ := hrel
        have hm1 : m - 1 < s.size := by omega
        by_cases h32 : bt s (m - 1) = 32
        · have q2 : ((s[m - 1].toNat : Int) == 32) = true := (eq_true (c := 32) hm1 h32).2
          have hne : m - 1 ≠ k := by intro e; rw [e] at h32; exact hbl.out h32
          have HT := Lib.hid (show tr s (m - 1) = tr s E by rw [← htr.out]; exact (tr_step s m (by omega) h32).symm)
          clear h32
          go_wp2
          go_round
          case rel => exact ⟨m - 1, by congr 1; omega, by omega, by omega, HT⟩
          case measure => simp [intOf]; omega
        · have q2 : ((s[m - 1].toNat : Int) == 32) = false := (ne_true (c := 32) hm1 h32).2
          have HT := Lib.hid (show (m : Int) = (plainE s false k : Int) by rw [plainE, hEq.out, ← htr.out, tr_stop s m (by omega) h32])
          clear h32
          go_wp2
          go_ret2
          exact ⟨ret_ib HT.out rfl, rfl⟩

set_option maxRecDepth 100000 in
set_option maxHeartbeats 8000000 in
theorem refYes_58t (s : ByteArray) (i : Nat) (w : World) (h : i < s.size) (hs : s.size ≤ 4000) (hc : Hid (bt s i = 58)) (hn : i + 1 < s.size) (hn2 : Hid (bt s (i + 1) ≠ 32)) (hf : Hid (flowB (bt s (i + 1)) = false)) (hbl : Hid (bt s i ≠ 32)) :
    Calls Tryz.prog 45 #[.string s, .int .i64 i, .bool true] w fun e w' => e = .returned (.tuple #[.int .i64 (plainE s true i), .bool true]) ∧ w = w' := by
  have k1 : ((s[i].toNat : Int) == 32) = false := (ne_true (c := 32) h hbl.out).2
  have z1 : decide ((i : Int) < 0) = false := by simp
  have z2 : decide (s.size ≤ i) = false := by simp; omega
  have HO := Lib.hid (show opensB (s[i].toNat) = true by rw [bt_get s i h, hc.out]; decide)
  have j0 : ((s[i].toNat : Int) != 45) = true := (ne_true (c := 45) h (by rw [hc.out]; decide)).1
  have j1 : ((s[i].toNat : Int) != 63) = true := (ne_true (c := 63) h (by rw [hc.out]; decide)).1
  have jj : ((s[i].toNat : Int) != 58) = false := (eq_true (c := 58) h hc.out).1
  have k4 : ((i : Int) == (s.size : Int) - 1) = false := by simp; omega
  have k6 : ((s[i + 1].toNat : Int) == 32) = false := (ne_true (c := 32) hn hn2.out).2
  have HN := Lib.hid (show flowB (s[i + 1].toNat) = false by rw [bt_get s (i + 1) hn]; exact hf.out)
  go_enter Tryz.func45, Tryz.ntmps45
  go_wp2_with fail
  refine (refOpens_any _ _ (UInt8.toNat_lt _)).mono ?_
  rintro e w' ⟨rfl, rfl⟩
  rw [HO.out]
  go_wp2_with fail
  refine (refFlow_any _ _ (UInt8.toNat_lt _)).mono ?_
  rintro e w' ⟨rfl, rfl⟩
  rw [HN.out]
  go_wp2
  go_loop [8, 9] (fun v j => ∃ k E : Nat, j = .int .i64 k ∧ v = .int .i64 E ∧ i ≤ k ∧ k < E ∧ E ≤ s.size ∧ Hid (E = s.size ∨ endsB s E true = true) ∧ Hid (∀ m, k < m → m < E → endsB s m true = false)) (fun _ j => (intOf j).toNat)
  case atStart => exact ⟨s.size - 1, s.size, by congr 1; omega, rfl, by omega, by omega, by omega, Lib.hid (.inl rfl), Lib.hid (by intro m _ _; omega)⟩
  case round =>
    obtain ⟨k, E, rfl, rfl, hk, hkE, hE, hEe, hno⟩ := hrel
    by_cases hlt : i < k
    · have hks : k < s.size := by omega
      have hk1 : k - 1 < s.size := by omega
      cases hpb : partsB s k true with
      | true =>
        have HP := Lib.hid hpb
        have HE := Lib.hid (parts_ends hpb)
        clear hpb
        go_wp2_with fail
        refine (refParts_any s k true _ hks hs).mono ?_
        rintro e w' ⟨rfl, rfl⟩
        rw [HP.out]
        go_wp2
        go_round
        case rel => exact ⟨k - 1, k, by congr 1; omega, rfl, by omega, by omega, by omega, Lib.hid (.inr HE.out), Lib.hid (by intro m _ _; omega)⟩
        case measure => simp [intOf]; omega
      | false =>
        have HP := Lib.hid hpb
        have hend := ends_rest (fl := true) hpb
        clear hpb
        by_cases h35 : bt s k = 35
        · have q1 : ((s[k].toNat : Int) == 35) = true := (eq_true (c := 35) hks h35).2
          by_cases h32 : bt s (k - 1) = 32
          · have q2 : ((s[k - 1].toNat : Int) == 32) = true := (eq_true (c := 32) hk1 h32).2
            have HE := Lib.hid (hend.trans (show _ = true by simp [h35, h32]))
            clear h35 h32 hend
            go_wp2_with fail
            refine (refParts_any s k true _ hks hs).mono ?_
            rintro e w' ⟨rfl, rfl⟩
            rw [HP.out]
            go_wp2
            go_round
            case rel => exact ⟨k - 1, k, by congr 1; omega, rfl, by omega, by omega, by omega, Lib.hid (.inr HE.out), Lib.hid (by intro m _ _; omega)⟩
            case measure => simp [intOf]; omega
          · have q2 : ((s[k - 1].toNat : Int) == 32) = false := (ne_true (c := 32) hk1 h32).2
            have HE := Lib.hid (hend.trans (show _ = false by simp [h35, h32]))
            have hff : flowB (s[k].toNat) = false := by rw [bt_get s k hks, h35]; decide
            have HF := Lib.hid hff
            clear h35 h32 hend hff
            go_wp2_with fail
            refine (refParts_any s k true _ hks hs).mono ?_
            rintro e w' ⟨rfl, rfl⟩
            rw [HP.out]
            go_wp2_with fail
            refine (refFlow_any _ _ (UInt8.toNat_lt _)).mono ?_
            rintro e w' ⟨rfl, rfl⟩
            rw [HF.out]
            go_wp2
            go_round
            case rel => exact ⟨k - 1, E, by congr 1; omega, rfl, by omega, by omega, by omega, hEe, Lib.hid (by
              intro m a b
              by_cases e : m = k
              · rw [e]; exact HE.out
              · exact hno.out m (by omega) b)⟩
            case measure => simp [intOf]; omega
        · have q1 : ((s[k].toNat : Int) == 35) = false := (ne_true (c := 35) hks h35).2
          cases hf : flowB (bt s k) with
          | false =>
            have HE := Lib.hid (hend.trans (show _ = false by simp [h35, hf]))
            have HF := Lib.hid (show flowB (s[k].toNat) = false by rw [bt_get s k hks]; exact hf)
            clear h35 hend hf
            go_wp2_with fail
            refine (refParts_any s k true _ hks hs).mono ?_
            rintro e w' ⟨rfl, rfl⟩
            rw [HP.out]
            go_wp2_with fail
            refine (refFlow_any _ _ (UInt8.toNat_lt _)).mono ?_
            rintro e w' ⟨rfl, rfl⟩
            rw [HF.out]
            go_wp2
            go_round
            case rel => exact ⟨k - 1, E, by congr 1; omega, rfl, by omega, by omega, by omega, hEe, Lib.hid (by
              intro m a b
              by_cases e : m = k
              · rw [e]; exact HE.out
              · exact hno.out m (by omega) b)⟩
            case measure => simp [intOf]; omega
          | true =>
            have HE := Lib.hid (hend.trans (show _ = true by simp [h35, hf]))
            have HF := Lib.hid (show flowB (s[k].toNat) = true by rw [bt_get s k hks]; exact hf)
            clear h35 hend hf
            go_wp2_with fail
            refine (refParts_any s k true _ hks hs).mono ?_
            rintro e w' ⟨rfl, rfl⟩
            rw [HP.out]
            go_wp2_with fail
            refine (refFlow_any _ _ (UInt8.toNat_lt _)).mono ?_
            rintro e w' ⟨rfl, rfl⟩
            rw [HF.out]
            go_wp2
            go_round
            case rel => exact ⟨k - 1, k, by congr 1; omega, rfl, by omega, by omega, by omega, Lib.hid (.inr HE.out), Lib.hid (by intro m _ _; omega)⟩
            case measure => simp [intOf]; omega
    · have hki : k = i := by omega
      subst hki
      have hEq := Lib.hid (endOf_eq (fl := true) hkE hE hEe.out hno.out)
      clear hno hEe
      go_wp2
      go_loop [8] (fun v => ∃ m : Nat, v = .int .i64 m ∧ k < m ∧ m ≤ E ∧ Hid (tr s m = tr s E)) (fun v => (intOf v).toNat)
      case atStart => exact ⟨E, rfl, hkE, by omega, Lib.hid rfl⟩
      case round =>
        obtain ⟨m, rfl, hm, hmE, htr⟩ := hrel
        have hm1 : m - 1 < s.size := by omega
        by_cases h32 : bt s (m - 1) = 32
        · have q2 : ((s[m - 1].toNat : Int) == 32) = true := (eq_true (c := 32) hm1 h32).2
          have hne : m - 1 ≠ k := by intro e; rw [e] at h32; exact hbl.out h32
          have HT := Lib.hid (show tr s (m - 1) = tr s E by rw [← htr.out]; exact (tr_step s m (by omega) h32).symm)
          clear h32
          go_wp2
          go_round
          case rel => exact ⟨m - 1, by congr 1; omega, by omega, by omega, HT⟩
          case measure => simp [intOf]; omega
        · have q2 : ((s[m - 1].toNat : Int) == 32) = false := (ne_true (c := 32) hm1 h32).2
          have HT := Lib.hid (show (m : Int) = (plainE s true k : Int) by rw [plainE, hEq.out, ← htr.out, tr_stop s m (by omega) h32])
          clear h32
          go_wp2
          go_ret2
          exact ⟨ret_ib HT.out rfl, rfl⟩

theorem refPlain_yes (s : ByteArray) (i : Nat) (fl : Bool) (w : World) (h : i < s.size) (hs : s.size ≤ 4000) (hb : beginsB s i fl = true) :
    Calls Tryz.prog 45 #[.string s, .int .i64 i, .bool fl] w fun e w' => e = .returned (.tuple #[.int .i64 (plainE s fl i), .bool true]) ∧ w = w' := by
  have hbl := Lib.hid (begins_ne hb)
  by_cases h3 : bt s i = 45 ∨ bt s i = 63 ∨ bt s i = 58
  · unfold beginsB at hb
    rw [if_neg hbl.out, if_pos h3] at hb
    have hn : i + 1 < s.size := by simp at hb; exact hb.1
    have hcut : cutsB (bt s (i + 1)) fl = false := by simp at hb; exact hb.2
    have hn2 : bt s (i + 1) ≠ 32 := by intro e; simp [cutsB, e] at hcut
    cases fl with
    | false =>
      rcases h3 with h3 | h3 | h3
      · exact refYes_45f s i w h hs (Lib.hid h3) hn (Lib.hid hn2) hbl
      · exact refYes_63f s i w h hs (Lib.hid h3) hn (Lib.hid hn2) hbl
      · exact refYes_58f s i w h hs (Lib.hid h3) hn (Lib.hid hn2) hbl
    | true =>
      have hf : flowB (bt s (i + 1)) = false := by simpa [cutsB, hn2] using hcut
      rcases h3 with h3 | h3 | h3
      · exact refYes_45t s i w h hs (Lib.hid h3) hn (Lib.hid hn2) (Lib.hid hf) hbl
      · exact refYes_63t s i w h hs (Lib.hid h3) hn (Lib.hid hn2) (Lib.hid hf) hbl
      · exact refYes_58t s i w h hs (Lib.hid h3) hn (Lib.hid hn2) (Lib.hid hf) hbl
  · have ho : opensB (bt s i) = false := by
      unfold beginsB at hb
      rw [if_neg hbl.out, if_neg h3] at hb
      simpa using hb
    exact refYes_n s i fl w h hs (Lib.hid ho) hbl
end Go.Proofs.YtnnnanemefcmdaaGreatDoor
