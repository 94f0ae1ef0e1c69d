/- The walks of replacement, Check (the program's and the document's), Bad, Fault. -/
import Derived.Test.YtcmdpablbadloaaDoorSignB
import Derived.Test.YtcmdpablbadloaaDoorCk
import Derived.Test.YtcmdpablbadloaaDoorShelf
import Derived.Test.YtcmdpablbadloaaDoorAid
import Derived.WalkKit
import Derived.WalkSpells
import Derived.WalkLawsBesides
import Derived.Lib.Hide
namespace Go.Proofs.YtcmdpablbadloaaDoor
open Go.RowKit

set_option maxHeartbeats 400000 in
theorem replacement_any (t : ByteArray) (w : World) :
    Calls Tryd.prog 70 #[.string t] w fun e w' => e = .returned (.bool (Lib.hasPrefix t.data.toList [239, 191, 189])) ∧ w = w' := by
  go_enter Tryd.func70, Tryd.ntmps70
  go_wp2_with fail
  refine (Tryd.strings_HasPrefix t _ _).mono ?_
  rintro e w' ⟨rfl, rfl⟩
  go_wp2
  go_ret
  exact ⟨rfl, rfl⟩

theorem chk_cell0 (w : World) (s : ByteArray) (p : Nat) : ((w.alloc (.cells #[.int .i64 0, .int .i64 0] 75)).iter s p).cell? ⟨w.heap.size, 0, none⟩ = some (.int .i64 0) := by unfold World.iter; simp
theorem chk_free0 (w : World) (s : ByteArray) (p : Nat) : ((w.alloc (.cells #[.int .i64 0, .int .i64 0] 75)).iter s p).frozen? ⟨w.heap.size, 0, none⟩ = false := by unfold World.iter; simp
theorem chk_cell1 (w : World) (s : ByteArray) (p : Nat) : ((w.alloc (.cells #[.int .i64 0, .int .i64 0] 75)).iter s p).cell? ⟨w.heap.size, 1, none⟩ = some (.int .i64 0) := by unfold World.iter; simp
theorem chk_free1 (w : World) (s : ByteArray) (p : Nat) : ((w.alloc (.cells #[.int .i64 0, .int .i64 0] 75)).iter s p).frozen? ⟨w.heap.size, 1, none⟩ = false := by unfold World.iter; simp
theorem chk_pos (w : World) (s : ByteArray) (p : Nat) : ((w.alloc (.cells #[.int .i64 0, .int .i64 0] 75)).iter s p).iterPos (w.heap.size + 1) = p := by
  have := World.iterPos_iter (w.alloc (.cells #[.int .i64 0, .int .i64 0] 75)) s p
  simpa using this
theorem below_chk (w : World) (o : Obj) (s : ByteArray) (i : Nat) (a b : Value) : Below w.heap.size w ((((w.alloc o).iter s i).setCell ⟨w.heap.size, 0, none⟩ a).setCell ⟨w.heap.size, 1, none⟩ b) :=
  ((((Below.refl _ _).alloc (Nat.le_refl _) _).alloc (by simp) _).setCell (by simp) _).setCell (by simp) _
theorem ret_agg2 {a b a' b' : Int} (h : a = a') (h' : b = b') : Ending.returned (.agg #[.int .i64 a, .int .i64 b]) = .returned (.agg #[.int .i64 a', .int .i64 b']) := by rw [h, h']

set_option maxRecDepth 100000 in
set_option maxHeartbeats 1000000 in
theorem check_long (s : ByteArray) (w : World) (h : 65536 < s.size) (hs : s.size ≤ maxLen) :
    Calls Tryd.prog 47 #[.string s] w fun e w' => e = .returned (.agg #[.int .i64 1, .int .i64 65536]) ∧ Below w.heap.size w w' := by
  unfold maxLen at hs
  go_enter Tryd.func47, Tryd.ntmps47
  go_wp2
  refine bodyPost_ret (v := .agg #[.int .i64 1, .int .i64 65536]) (by simp [results, Tryd.results47, go_sem]) rfl ⟨rfl, ?_⟩
  exact ((Below.refl _ _).alloc (Nat.le_refl _) _)

set_option maxRecDepth 100000 in
set_option maxHeartbeats 2000000 in
theorem check_short (s : ByteArray) (w : World) (h : s.size ≤ 65536) :
    Calls Tryd.prog 47 #[.string s] w fun e w' => e = .returned (.agg #[.int .i64 (ck s).1, .int .i64 (ck s).2]) ∧ Below w.heap.size w w' := by
  go_enter Tryd.func47, Tryd.ntmps47
  go_wp2
  go_loopw [] (fun wr => ∃ (i f : Nat), wr = (w.alloc (.cells #[.int .i64 0, .int .i64 0] 75)).iter s i ∧ Hid (ckf s f i = ckf s s.size 0) ∧ s.size ≤ i + f ∧ i ≤ s.size) (fun wr => s.size - wr.iterPos (w.heap.size + 1))
  case atStart => exact ⟨0, s.size, rfl, Lib.hid rfl, by omega, by omega⟩
  case round =>
    obtain ⟨i, f, rfl, hp, hf, hi⟩ := hrel
    by_cases hlt : i < s.size
    · have hnx : ∀ ty, (Instr.next (.pointer (some ⟨w.heap.size + 1, 0, none⟩)) true ty).run Tryd.prog ((w.alloc (.cells #[.int .i64 0, .int .i64 0] 75)).iter s i) = _ := fun ty => by
        have := run_next_any (P := Tryd.prog) (w.alloc (.cells #[.int .i64 0, .int .i64 0] 75)) s i ty hlt
        simpa using this
      cases hsg : signB (Utf8.decode s i).1 with
      | false =>
        have HS := Lib.hid hsg
        clear hsg
        have q0 := chk_cell0 w s (i + (Utf8.decode s i).2)
        have q1 := chk_cell1 w s (i + (Utf8.decode s i).2)
        have q2 := chk_free0 w s (i + (Utf8.decode s i).2)
        have q3 := chk_free1 w s (i + (Utf8.decode s i).2)
        go_wp2_with fail
        refine (sign_any _ _ (by have := dec_le s i; omega)).mono ?_
        rintro e w' ⟨rfl, rfl⟩
        rw [HS.out]
        go_wp2
        have hpo := hp.out
        cases f with
        | zero => omega
        | succ f =>
        rw [ckf_bad s f i hlt (good_no s i hlt (.inl HS.out))] at hpo
        have hk := ck_some s h i hpo.symm
        refine bodyPost_ret (v := .agg #[.int .i64 2, .int .i64 i]) (by simp [results, Tryd.results47, go_sem, q0, q1]) rfl ⟨ret_agg2 (by rw [hk]; rfl) (by rw [hk]), ?_⟩
        exact below_chk _ _ _ _ _ _
      | true =>
        have HS := Lib.hid hsg
        clear hsg
        by_cases h3 : (Utf8.decode s i).1 = 65533
        · have t3 : (((Utf8.decode s i).1 : Int) == 65533) = true := by simp [h3]
          have H3 := Lib.hid h3
          clear h3
          have q0 := chk_cell0 w s (i + (Utf8.decode s i).2)
          have q1 := chk_cell1 w s (i + (Utf8.decode s i).2)
          have q2 := chk_free0 w s (i + (Utf8.decode s i).2)
          have q3 := chk_free1 w s (i + (Utf8.decode s i).2)
          go_wp2_with fail
          refine (sign_any _ _ (by have := dec_le s i; omega)).mono ?_
          rintro e w' ⟨rfl, rfl⟩
          rw [HS.out]
          go_wp2_with fail
          refine (replacement_any _ _).mono ?_
          rintro e w' ⟨rfl, rfl⟩
          rw [Lib.extract_to_end, show Lib.hasPrefix (s.data.toList.drop i) [239, 191, 189] = rep s i from rfl]
          cases hr : rep s i with
          | false =>
            have HR := Lib.hid hr
            clear hr
            go_wp2
            have hpo := hp.out
            cases f with
            | zero => omega
            | succ f =>
            rw [ckf_bad s f i hlt (good_no s i hlt (.inr ⟨H3.out, HR.out⟩))] at hpo
            have hk := ck_some s h i hpo.symm
            refine bodyPost_ret (v := .agg #[.int .i64 2, .int .i64 i]) (by simp [results, Tryd.results47, go_sem, q0, q1]) rfl ⟨ret_agg2 (by rw [hk]; rfl) (by rw [hk]), ?_⟩
            exact below_chk _ _ _ _ _ _
          | true =>
            have HR := Lib.hid hr
            clear hr
            go_wp2
            have hg := good_yes s i hlt HS.out (fun _ => HR.out)
            have hw := wd_le s i hlt
            have hw1 := wd_pos s i
            go_roundw
            case rel =>
              cases f with
              | zero => omega
              | succ f => exact ⟨i + wd s i, f, rfl, Lib.hid (by rw [← hp.out, ckf_good s f i hlt hg]), by omega, by omega⟩
            case measure =>
              rw [chk_pos, chk_pos]
              unfold wd at hw1
              omega
        · have t3 : (((Utf8.decode s i).1 : Int) == 65533) = false := by simp; omega
          have H3 := Lib.hid h3
          clear h3
          go_wp2_with fail
          refine (sign_any _ _ (by have := dec_le s i; omega)).mono ?_
          rintro e w' ⟨rfl, rfl⟩
          rw [HS.out]
          go_wp2
          have hg := good_yes s i hlt HS.out (fun hh => absurd hh H3.out)
          have hw := wd_le s i hlt
          have hw1 := wd_pos s i
          go_roundw
          case rel =>
            cases f with
            | zero => omega
            | succ f => exact ⟨i + wd s i, f, rfl, Lib.hid (by rw [← hp.out, ckf_good s f i hlt hg]), by omega, by omega⟩
          case measure =>
            rw [chk_pos, chk_pos]
            unfold wd at hw1
            omega
    · have hnx : ∀ ty, (Instr.next (.pointer (some ⟨w.heap.size + 1, 0, none⟩)) true ty).run Tryd.prog ((w.alloc (.cells #[.int .i64 0, .int .i64 0] 75)).iter s i) = _ := fun ty => by
        have := run_next_end (P := Tryd.prog) (w.alloc (.cells #[.int .i64 0, .int .i64 0] 75)) s i ty hlt
        simpa using this
      have q0 := chk_cell0 w s i
      have q1 := chk_cell1 w s i
      have q2 := chk_free0 w s i
      have q3 := chk_free1 w s i
      go_wp2
      have hpo := hp.out
      rw [ckf_end s f i (by omega)] at hpo
      have hk := ck_none s h hpo.symm
      refine bodyPost_ret (v := .agg #[.int .i64 0, .int .i64 0]) (by simp [results, Tryd.results47, go_sem, q0, q1]) rfl ⟨ret_agg2 (by rw [hk]; rfl) (by rw [hk]; rfl), ?_⟩
      exact below_chk _ _ _ _ _ _

theorem check_any (s : ByteArray) (w : World) (hs : s.size ≤ maxLen) :
    Calls Tryd.prog 47 #[.string s] w fun e w' => e = .returned (.agg #[.int .i64 (ck s).1, .int .i64 (ck s).2]) ∧ Below w.heap.size w w' := by
  by_cases h : 65536 < s.size
  · have := check_long s w h hs
    rw [ck_long s h]; exact this
  · exact check_short s w (by omega)

set_option maxHeartbeats 400000 in
theorem bad_any (a b : Int) (w : World) :
    Calls Tryd.prog 48 #[.agg #[.int .i64 a, .int .i64 b]] w fun e w' => e = .returned (.bool (a != 0)) ∧ Below w.heap.size w w' := by
  go_enter Tryd.func48, Tryd.ntmps48
  go_wp2
  go_ret
  exact ⟨rfl, (Below.refl _ _).alloc (Nat.le_refl _) _⟩
end Go.Proofs.YtcmdpablbadloaaDoor
