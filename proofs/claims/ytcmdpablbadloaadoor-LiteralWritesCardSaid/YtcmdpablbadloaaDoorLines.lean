/- The walks of line and Lines. -/
import Derived.Test.YtcmdpablbadloaaDoorCut
import Derived.Test.YtcmdpablbadloaaDoorAid
import Derived.WalkKit
import Derived.WalkSpells
import Derived.WalkLawsBesides
import Derived.Lib.Hide
namespace Go.Proofs.YtcmdpablbadloaaDoor
open Go.RowKit

/-- A line as its three cells. -/
def lnv (x : Nat × Nat × List UInt8) : List Value := [.int .i64 x.1, .int .i64 x.2.1, .string ⟨x.2.2.toArray⟩]

set_option maxRecDepth 100000 in
set_option maxHeartbeats 400000 in
theorem line_any (p : Nat) (r : ByteArray) (w : World) (_hs : r.size ≤ 1099511627776) (_hp : p ≤ 1099511627776) :
    Calls Tryd.prog 35 #[.int .i64 p, .string r] w fun e w' => e = .returned (.agg #[.int .i64 p, .int .i64 ((r.data.toList.length - (beh r.data.toList).length : Nat) : Int), .string ⟨(beh r.data.toList).toArray⟩]) ∧ Below w.heap.size w w' := by
  have hb := beh_le r.data.toList
  have hb2 : (beh r.data.toList).length ≤ 1099511627776 := by simp at hb; omega
  have hsz : (r.size : Int) - ((beh r.data.toList).length : Nat) = ((r.data.toList.length - (beh r.data.toList).length : Nat) : Int) := by simp at hb; simp; omega
  have HS := Lib.hid hsz
  clear hsz
  generalize hbb : beh r.data.toList = bb at *
  have HB := Lib.hid hbb
  clear hbb
  go_enter Tryd.func35, Tryd.ntmps35
  go_wp2_with fail
  refine (Tryd.strings_TrimLeft_one r 32 (by decide) _).mono ?_
  rintro e w' ⟨rfl, rfl⟩
  rw [show Lib.trimLeftB r.data.toList 32 = bb from HB.out]
  go_wp2
  refine bodyPost_ret (v := .agg #[.int .i64 p, .int .i64 ((r.size : Int) - (bb.length : Int)), .string ⟨bb.toArray⟩]) (by simp [results, Tryd.results35, go_sem]) rfl ⟨?_, ?_⟩
  · rw [HS.out]
  · exact ((Below.refl _ _).alloc (Nat.le_refl _) _)

theorem line_list (p : Nat) (l : List UInt8) (w : World) (hs : l.length ≤ 1099511627776) (hp : p ≤ 1099511627776) :
    Calls Tryd.prog 35 #[.int .i64 p, .string ⟨l.toArray⟩] w fun e w' => e = .returned (.agg #[.int .i64 p, .int .i64 ((l.length - (beh l).length : Nat) : Int), .string ⟨(beh l).toArray⟩]) ∧ Below w.heap.size w w' :=
  line_any p ⟨l.toArray⟩ w hs hp

theorem infoLine : (Tryd.prog.info? 39).map (fun i => (i.zero, i.size, i.bytes)) = some (some (.agg #[.int .i64 0, .int .i64 0, .string ⟨#[]⟩]), 3, 32) := by kernel_rfl

set_option maxRecDepth 100000 in
set_option maxHeartbeats 1000000 in
theorem lines_any (s : ByteArray) (w : World) (hs : s.size ≤ 1000000) :
    Calls Tryd.prog 14 #[.string s] w fun e w' => ∃ v, e = .returned v ∧ w'.ownsRow w.heap.size 39 3 v (lns (s.size + 1) s.data.toList 0).length ((lns (s.size + 1) s.data.toList 0).flatMap lnv) ∧ Below w.heap.size w w' := by
  obtain ⟨i0, hi, hz0, hz1, hz2⟩ := info_parts infoLine
  have hmx : (1000000 : Nat) ≤ maxLen := by decide
  go_enter Tryd.func14, Tryd.ntmps14
  go_wp2
  go_loopw [3, 4] (fun v a wr => ∃ (f p : Nat) (done : List (Nat × Nat × List UInt8)), a = .int .i64 p ∧ p ≤ s.size + 1 ∧ s.size + 1 ≤ p + f ∧ done.length ≤ p ∧ Hid (LnsAt s.data.toList f p done) ∧
      wr.ownsRow w.heap.size 39 3 v done.length (done.flatMap lnv) ∧ Below w.heap.size w wr) (fun _ a _ => s.size + 1 - (intOf a).toNat)
  case atStart => exact ⟨s.size + 1, 0, [], rfl, by omega, by omega, by simp, Lib.hid (by simp [LnsAt]), World.ownsRow_nil _ _ _ _, Below.refl _ _⟩
  case round =>
    obtain ⟨f, p, done, rfl, hp, hf, hd, hl, hown, hbel⟩ := hrel
    have hsz := hbel.size
    by_cases hlt : p < s.size
    · go_wp2_with fail
      refine (cut_any (s.extract p s.size) _ (by simp; omega)).mono ?_
      rintro e w' ⟨x, b, rfl, n, rfl⟩
      obtain ⟨R, hR⟩ : ∃ R, row (s.extract p s.size).data.toList = R := ⟨_, rfl⟩
      have hRl : R.length + p ≤ s.size := by
        have := row_le (s.extract p s.size).data.toList
        rw [hR] at this; simp at this; omega
      rw [hR]
      have HR := Lib.hid hR
      clear hR
      go_wp2_with fail
      refine (line_list p R _ (by omega) (by omega)).mono ?_
      rintro e w2 ⟨rfl, hb2⟩
      obtain ⟨k, hk⟩ : ∃ k, R.length - (beh R).length = k := ⟨_, rfl⟩
      obtain ⟨T, hT⟩ : ∃ T, beh R = T := ⟨_, rfl⟩
      rw [hT] at hk ⊢
      rw [hk]
      have HK := Lib.hid hk
      have HT := Lib.hid hT
      clear hk hT
      have hown2 := own_below (own_drewN hown n) hb2
      have hb3 : Below w.heap.size w w2 := (bel_drewN hbel n).trans (hb2.mono (by simp; omega))
      have hsz2 := hb3.size
      have hz3 : Below w.heap.size w (w2.alloc (.cells #[.int .i64 p, .int .i64 k, .string ⟨T.toArray⟩] 39)) := hb3.alloc hsz2 _
      clear hb2 hbel hown
      go_wp2_with (at_builtin; refine wpList_append_own _ rfl _ _ 36 rfl w.heap.size 39 i0 (.agg #[.int .i64 0, .int .i64 0, .string ⟨#[]⟩]) 3 32 Tryd.underlying36 hi hz0 hz1 hz2 rfl (by decide) _ _ _ rfl (hown2.alloc _) ⟨w2.heap.size, 0, none⟩ 1 1 [.int .i64 p, .int .i64 k, .string ⟨T.toArray⟩] rfl rfl ?c1 ?c2 ?c3 ?c4 ?c5 ?_)
      case c1 => intro j u hj; exact cells_new w2 _ _ j u hj
      case c2 => intro u hu; simp at hu; rcases hu with rfl | rfl | rfl <;> rfl
      case c3 => unfold maxLen at *; omega
      case c4 => omega
      case c5 => simp; omega
      intro v' w3 hown3 hgrow _
      have hb4 : Below w.heap.size w w3 := below_of_grown hz3 hgrow (by simp; omega) (hown2.alloc _)
      clear hown2 hz3 hgrow
      go_wp2
      go_roundw
      case rel =>
        cases f with
        | zero => omega
        | succ f =>
          refine ⟨f, p + R.length + 1, done ++ [(p, k, T)], by go_num, by omega, by omega, by simp; omega, Lib.hid (lnsAt_step hl.out (by simpa using hlt) (by rw [← extract_drop]; exact HR.out) HT.out HK.out), ?_, hb4⟩
          simpa [lnv] using hown3
      case measure => simp [intOf]; omega
    · go_wp2
      go_ret
      have e1 := lnsAt_end hl.out (by simp; omega)
      simp only [Array.length_toList] at e1
      rw [e1] at hown
      exact ⟨_, rfl, hown, hbel⟩
end Go.Proofs.YtcmdpablbadloaaDoor
