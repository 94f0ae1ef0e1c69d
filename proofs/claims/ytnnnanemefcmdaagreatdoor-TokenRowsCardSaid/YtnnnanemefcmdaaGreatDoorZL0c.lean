/- The walk of the program's Single: a text, single-quoted. -/
import Derived.Test.YtnnnanemefcmdaaGreatDoorZL0a
import Derived.Test.YtnnnanemefcmdaaGreatDoorShelf
import Derived.Test.YtnnnanemefcmdaaGreatDoorZL0b
import Derived.WalkKit
import Derived.Lib.Bytealg
import Derived.Lib.TrimByte
import Derived.Test.YtnnnanemefcmdaaGreatDoorRows
import Derived.WalkSpells
import Derived.WalkLawsBesides
import Derived.Deep.QuietTactic
import Derived.BigQuiet
import Derived.Lib.Hide
namespace Go.Proofs.YtnnnanemefcmdaaGreatDoor
open Go.RowKit

def MaxLenCell (w : World) : Prop := ∃ m, w.cell? ⟨2, 0, none⟩ = some (.int .i64 m)
theorem max_below {w w' : World} (h : MaxLenCell w) (hb : Below w.heap.size w w') : MaxLenCell w' := by
  obtain ⟨m, hm⟩ := h
  exact ⟨m, (hb.cell (show (⟨2, 0, none⟩ : Addr).block < w.heap.size from World.block_lt_of_cell? _ _ hm)).trans hm⟩

theorem index39 (l : List UInt8) : ∀ i : Nat, Lib.indexByte l 39 = i → ∃ r, l = l.take i ++ 39 :: r ∧ l.drop (i + 1) = r ∧ i < l.length ∧ ∀ b ∈ l.take i, b ≠ 39 := by
  induction l with
  | nil => intro i h; simp [Lib.indexByte] at h
  | cons b l ih =>
    intro i h
    by_cases hb : b = 39
    · subst hb
      simp [Lib.indexByte] at h
      obtain rfl : i = 0 := by omega
      exact ⟨l, by simp⟩
    · have hb' : (b == 39) = false := by simpa using hb
      rw [Lib.indexByte, hb'] at h
      by_cases hm : Lib.indexByte l 39 = -1
      · simp [hm] at h
      · have hge := Lib.indexByte_ge l 39
        obtain ⟨j, hj⟩ : ∃ j : Nat, Lib.indexByte l 39 = j := ⟨(Lib.indexByte l 39).toNat, by omega⟩
        have hm2 : (Lib.indexByte l 39 == -1) = false := by simpa using hm
        simp only [hj] at h
        obtain ⟨r, h1, h2, h3, h4⟩ := ih j hj
        obtain rfl : i = j + 1 := by simp at h; omega
        refine ⟨r, by simpa using h1, by simpa using h2, by simp; omega, ?_⟩
        intro c hc
        simp only [List.take_succ_cons, List.mem_cons] at hc
        rcases hc with rfl | hc
        · exact hb
        · exact h4 c hc
theorem dbl_app (a b : List UInt8) : dbl (a ++ b) = dbl a ++ dbl b := by simp [dbl]
theorem dbl_none (l : List UInt8) (h : ∀ b ∈ l, b ≠ 39) : dbl l = l := by
  induction l with
  | nil => rfl
  | cons b l ih =>
    have hb : b.toNat ≠ 39 := fun e => h b (by simp) (UInt8.toNat_inj.1 e)
    have := ih fun c hc => h c (by simp [hc])
    simp only [dbl, List.flatMap_cons, if_neg hb] at this ⊢
    rw [this]; rfl
theorem rep_dbl (k : Nat) : ∀ l : List UInt8, l.count 39 = k → Lib.replaceK [39] [39, 39] k l = dbl l := by
  induction k with
  | zero =>
    intro l h
    rw [Lib.replaceK, dbl_none l (fun b hb e => by subst e; exact absurd (List.count_pos_iff.2 hb) (by omega))]
  | succ k ih =>
    intro l h
    obtain ⟨i, hi⟩ := Lib.index_of_count (s := l) (old := [39]) (by rw [Lib.count_one]; omega)
    rw [Lib.replaceK_hit _ _ _ _ i hi]
    rw [Lib.index_one] at hi
    obtain ⟨r, h1, h2, h3, h4⟩ := index39 l i hi
    have hr : r.count 39 = k := by
      rw [h1, List.count_append, List.count_cons_self] at h
      have : (l.take i).count 39 = 0 := List.count_eq_zero.2 fun hc => h4 39 hc rfl
      omega
    rw [show i + [(39 : UInt8)].length = i + 1 from rfl, h2, ih r hr]
    conv => rhs; rw [h1, dbl_app, dbl_none _ h4]
    simp [dbl]
theorem replace_dbl (l : List UInt8) : Lib.replaceAll l [39] [39, 39] = dbl l := by
  unfold Lib.replaceAll Lib.replace
  rw [if_neg (by decide)]
  unfold Lib.replaceNum
  rw [if_pos (.inl (by decide))]
  exact rep_dbl _ l (Lib.count_one 39 l).symm

theorem rep_any (s : ByteArray) (w : World) (hs : s.size ≤ 100000) (hm : MaxLenCell w) :
    Calls Tryz.prog 55 #[.string s, .string ⟨#[39]⟩, .string ⟨#[39, 39]⟩] w fun e w' => e = .returned (.string ⟨(dbl s.data.toList).toArray⟩) ∧ Below w.heap.size w w' := by
  obtain ⟨m, hm⟩ := hm
  have hcl := Lib.countB_le ⟨#[39]⟩ (by decide) s.size s (Nat.le_refl _)
  have hz : (⟨#[39, 39]⟩ : ByteArray).size = 2 := rfl
  have hlen : s.size + Lib.countB s ⟨#[39]⟩ * (⟨#[39, 39]⟩ : ByteArray).size ≤ 140737488355328 := by rw [hz]; omega
  have h := Tryz.strings_ReplaceAll s ⟨#[39]⟩ ⟨#[39, 39]⟩ m w (by omega) hm (by decide) hlen
  have hd : Lib.replaceAll s.data.toList (⟨#[39]⟩ : ByteArray).data.toList (⟨#[39, 39]⟩ : ByteArray).data.toList = dbl s.data.toList := replace_dbl _
  rw [hd] at h
  exact h

set_option maxRecDepth 100000 in
set_option maxHeartbeats 1000000 in
theorem single_any (s : ByteArray) (w : World) (hs : s.size ≤ 100000) (hm : MaxLenCell w) :
    Calls Tryz.prog 22 #[.string s] w fun e w' => e = .returned (.string ⟨(wsL s.data.toList).toArray⟩) ∧ Below w.heap.size w w' := by
  have HR := rep_any s w hs hm
  obtain ⟨l, hl⟩ : ∃ l, dbl s.data.toList = l := ⟨_, rfl⟩
  have HL := Lib.hid hl
  have hll : l.length ≤ 200000 := by have := dbl_len s.data.toList; rw [hl] at this; have : s.data.toList.length = s.size := (Lib.size_eq s).symm; omega
  rw [hl] at HR
  have hz2 : (⟨l.toArray⟩ : ByteArray).size = l.length := rfl
  have hz3 : (⟨#[39]⟩ ++ ⟨l.toArray⟩ : ByteArray).size = 1 + l.length := by rw [show (⟨#[39]⟩ : ByteArray) = ⟨[39].toArray⟩ from rfl, cat8]; show ([39] ++ l).length = _; simp; omega
  clear hl hm
  go_enter Tryz.func22, Tryz.ntmps22
  go_wp2_with (go_at_call 55; refine HR.mono ?_; rintro e w1 ⟨rfl, hb⟩)
  refine bodyPost_ret (v := .string ⟨(wsL s.data.toList).toArray⟩) ?_ rfl ⟨rfl, hb⟩
  have hc : (⟨#[39]⟩ : ByteArray) ++ ⟨l.toArray⟩ ++ ⟨#[39]⟩ = ⟨(wsL s.data.toList).toArray⟩ := by
    rw [show (⟨#[39]⟩ : ByteArray) = ⟨[39].toArray⟩ from rfl, cat8, cat8, wsL, HL.out]; rfl
  simp [results, Tryz.results22, go_sem, hc]
end Go.Proofs.YtnnnanemefcmdaaGreatDoor
namespace Go.Proofs.YtnnnanemefcmdaaGreatDoor

/-- What stands ahead of the first line feed. -/
def row (l : List UInt8) : List UInt8 := l.takeWhile (· != 10)
/-- What stands behind the blanks. -/
def beh (l : List UInt8) : List UInt8 := l.dropWhile (· == 32)
/-- The lines of l, which begins at place p: where each begins, its blanks, its text. -/
def lns : Nat → List UInt8 → Nat → List (Nat × Nat × List UInt8)
  | 0, _, _ => []
  | f + 1, l, p => if l.isEmpty then [] else (p, (row l).length - (beh (row l)).length, beh (row l)) :: lns f (l.drop ((row l).length + 1)) (p + (row l).length + 1)

theorem row_le (l : List UInt8) : (row l).length ≤ l.length := by
  unfold row; exact (List.takeWhile_prefix _).length_le
theorem row_take (l : List UInt8) : row l = l.take (row l).length := by
  unfold row; exact List.prefix_iff_eq_take.1 (List.takeWhile_prefix _)
theorem beh_le (l : List UInt8) : (beh l).length ≤ l.length := by
  unfold beh; exact (List.dropWhile_suffix _).length_le
theorem index_row (l : List UInt8) : (Lib.indexByte l 10 = -1 ∧ row l = l) ∨ (Lib.indexByte l 10 = (row l).length ∧ (row l).length < l.length) := by
  induction l with
  | nil => left; exact ⟨rfl, rfl⟩
  | cons b l ih =>
    by_cases h : b = 10
    · subst h; right; simp [Lib.indexByte, row]
    · have h1 : (b == 10) = false := by simp [h]
      have h2 : row (b :: l) = b :: row l := by simp [row, h]
      rw [h2]
      rcases ih with ⟨i1, i2⟩ | ⟨i1, i2⟩
      · left; simp [Lib.indexByte, h1, i1, i2]
      · right
        have h3 : ¬ Lib.indexByte l 10 = -1 := by omega
        constructor
        · simp [Lib.indexByte, h1, h3]; omega
        · simp; omega
/-- What has been done when p bytes have been gone through, and what is left. -/
def LnsAt (L : List UInt8) (f p : Nat) (done : List (Nat × Nat × List UInt8)) : Prop := lns (L.length + 1) L 0 = done ++ lns f (L.drop p) p
theorem lnsAt_step {L : List UInt8} {f p : Nat} {done : List (Nat × Nat × List UInt8)} (h : LnsAt L (f + 1) p done) (hp : p < L.length) {R T : List UInt8} {k : Nat} (hR : row (L.drop p) = R) (hT : beh R = T) (hk : R.length - T.length = k) :
    LnsAt L f (p + R.length + 1) (done ++ [(p, k, T)]) := by
  unfold LnsAt at *
  rw [h, lns, if_neg (by simp; omega), hR, hT, hk]
  simp [List.drop_drop, Nat.add_assoc]
theorem lnsAt_end {L : List UInt8} {f p : Nat} {done : List (Nat × Nat × List UInt8)} (h : LnsAt L f p done) (hp : L.length ≤ p) : done = lns (L.length + 1) L 0 := by
  unfold LnsAt at h
  rw [List.drop_eq_nil_of_le hp] at h
  cases f <;> simpa [lns] using h.symm
theorem extract_drop (t : ByteArray) (p : Nat) : (t.extract p t.size).data.toList = t.data.toList.drop p := by
  have e : t.size = t.data.toList.length := by simp
  simp only [ByteArray.data_extract, Array.toList_extract, List.extract, e]
  rw [List.take_of_length_le (by simp)]
end Go.Proofs.YtnnnanemefcmdaaGreatDoor
namespace Go.Proofs.YtnnnanemefcmdaaGreatDoor
open Go.RowKit

def CutPost (t : ByteArray) (w : World) (e : Ending) (w' : World) : Prop :=
  ∃ (x : ByteArray) (b : Bool), e = .returned (.tuple #[.string ⟨(row t.data.toList).toArray⟩, .string x, .bool b]) ∧ ∃ n, w' = w.drewN n

theorem extract_take (t : ByteArray) (k : Nat) : t.extract 0 k = ⟨(t.data.toList.take k).toArray⟩ := by
  apply ByteArray.ext; simp [ByteArray.data_extract]; apply Array.ext'; simp

set_option maxRecDepth 100000 in
set_option maxHeartbeats 400000 in
theorem cutLow_none (t : ByteArray) (w : World) (h : Hid (Lib.indexByte t.data.toList 10 = -1)) :
    Calls Tryz.prog 106 #[.string t, .string ⟨#[10]⟩] w fun e w' => e = .returned (.tuple #[.string t, .string ⟨#[]⟩, .bool false]) ∧ w = w' := by
  go_enter Tryz.func106, Tryz.ntmps106
  go_wp2_with fail
  refine (Tryz.stringslite_Index_one t 10 _).mono ?_
  rintro e w' ⟨rfl, rfl⟩
  rw [h.out]
  go_wp2
  go_ret3
  exact ⟨rfl, rfl⟩

set_option maxRecDepth 100000 in
set_option maxHeartbeats 400000 in
theorem cutLow_some (t : ByteArray) (k : Nat) (w : World) (hs : t.size ≤ 1099511627776) (hk : k < t.size) (h : Hid (Lib.indexByte t.data.toList 10 = k)) :
    Calls Tryz.prog 106 #[.string t, .string ⟨#[10]⟩] w fun e w' => e = .returned (.tuple #[.string (t.extract 0 k), .string (t.extract (k + 1) t.size), .bool true]) ∧ ∃ n, w' = w.drewN n := by
  go_enter Tryz.func106, Tryz.ntmps106
  go_wp2_with fail
  refine (Tryz.stringslite_Index_one t 10 _).mono ?_
  rintro e w' ⟨rfl, rfl⟩
  rw [h.out]
  go_wp2
  have x1 : IntKind.i64.wrap ((k : Int) + 1) = (k : Int) + 1 := by rw [IntKind.wrap_i64]; omega
  have x2 : (0 : Int) ≤ (k : Int) + 1 := by omega
  have x3 : ((k : Int) + 1).toNat = k + 1 := by omega
  go_quiet (fail)
  go_wp2
  go_ret3
  exact ⟨rfl, _, rfl⟩

theorem cutLow (t : ByteArray) (w : World) (hs : t.size ≤ 1099511627776) : Calls Tryz.prog 106 #[.string t, .string ⟨#[10]⟩] w (CutPost t w) := by
  rcases index_row t.data.toList with ⟨h, hr⟩ | ⟨h, hr⟩
  · exact (cutLow_none t w (Lib.hid h)).mono fun e w' ⟨h1, h2⟩ => ⟨⟨#[]⟩, false, by rw [h1, hr], 0, by rw [← h2]; rfl⟩
  · have hk : (row t.data.toList).length < t.size := by simpa using hr
    refine (cutLow_some t _ w hs hk (Lib.hid h)).mono fun e w' ⟨h1, h2⟩ => ⟨t.extract ((row t.data.toList).length + 1) t.size, true, ?_, h2⟩
    rw [h1, extract_take, ← row_take]

set_option maxRecDepth 100000 in
set_option maxHeartbeats 400000 in
theorem cut_any (t : ByteArray) (w : World) (hs : t.size ≤ 1099511627776) : Calls Tryz.prog 81 #[.string t, .string ⟨#[10]⟩] w (CutPost t w) := by
  go_enter Tryz.func81, Tryz.ntmps81
  go_wp2_with fail
  refine (cutLow t _ hs).mono ?_
  rintro e w' ⟨x, b, rfl, n, rfl⟩
  go_wp2
  go_ret3
  exact ⟨x, b, rfl, n, rfl⟩
end Go.Proofs.YtnnnanemefcmdaaGreatDoor
namespace Go.Proofs.YtnnnanemefcmdaaGreatDoor
open Go.RowKit

/-- A line as its three cells. -/
def lnv (x : Nat × Nat × List UInt8) : List Value := [.int .i64 x.1, .int .i64 x.2.1, .string ⟨x.2.2.toArray⟩]

set_option maxRecDepth 100000 in
set_option maxHeartbeats 400000 in
theorem line_any (p : Nat) (r : ByteArray) (w : World) (_hs : r.size ≤ 1099511627776) (_hp : p ≤ 1099511627776) :
    Calls Tryz.prog 82 #[.int .i64 p, .string r] w fun e w' => e = .returned (.agg #[.int .i64 p, .int .i64 ((r.data.toList.length - (beh r.data.toList).length : Nat) : Int), .string ⟨(beh r.data.toList).toArray⟩]) ∧ Below w.heap.size w w' := by
  have hb := beh_le r.data.toList
  have hb2 : (beh r.data.toList).length ≤ 1099511627776 := by simp at hb; omega
  have hsz : (r.size : Int) - ((beh r.data.toList).length : Nat) = ((r.data.toList.length - (beh r.data.toList).length : Nat) : Int) := by simp at hb; simp; omega
  have HS := Lib.hid hsz
  clear hsz
  generalize hbb : beh r.data.toList = bb at *
  have HB := Lib.hid hbb
  clear hbb
  go_enter Tryz.func82, Tryz.ntmps82
  go_wp2_with fail
  refine (Tryz.strings_TrimLeft_one r 32 (by decide) _).mono ?_
  rintro e w' ⟨rfl, rfl⟩
  rw [show Lib.trimLeftB r.data.toList 32 = bb from HB.out]
  go_wp2
  refine bodyPost_ret (v := .agg #[.int .i64 p, .int .i64 ((r.size : Int) - (bb.length : Int)), .string ⟨bb.toArray⟩]) (by simp [results, Tryz.results82, go_sem]) rfl ⟨?_, ?_⟩
  · rw [HS.out]
  · exact ((Below.refl _ _).alloc (Nat.le_refl _) _)

theorem line_list (p : Nat) (l : List UInt8) (w : World) (hs : l.length ≤ 1099511627776) (hp : p ≤ 1099511627776) :
    Calls Tryz.prog 82 #[.int .i64 p, .string ⟨l.toArray⟩] w fun e w' => e = .returned (.agg #[.int .i64 p, .int .i64 ((l.length - (beh l).length : Nat) : Int), .string ⟨(beh l).toArray⟩]) ∧ Below w.heap.size w w' :=
  line_any p ⟨l.toArray⟩ w hs hp

theorem infoLine : (Tryz.prog.info? 89).map (fun i => (i.zero, i.size, i.bytes)) = some (some (.agg #[.int .i64 0, .int .i64 0, .string ⟨#[]⟩]), 3, 32) := by kernel_rfl

set_option maxRecDepth 100000 in
set_option maxHeartbeats 1000000 in
theorem lines_any (s : ByteArray) (w : World) (hs : s.size ≤ 1000000) :
    Calls Tryz.prog 51 #[.string s] w fun e w' => ∃ v, e = .returned v ∧ w'.ownsRow w.heap.size 89 3 v (lns (s.size + 1) s.data.toList 0).length ((lns (s.size + 1) s.data.toList 0).flatMap lnv) ∧ Below w.heap.size w w' := by
  obtain ⟨i0, hi, hz0, hz1, hz2⟩ := info_parts infoLine
  have hmx : (1000000 : Nat) ≤ maxLen := by decide
  go_enter Tryz.func51, Tryz.ntmps51
  go_wp2
  go_loopw [3, 4] (fun v a wr => ∃ (f p : Nat) (done : List (Nat × Nat × List UInt8)), a = .int .i64 p ∧ p ≤ s.size + 1 ∧ s.size + 1 ≤ p + f ∧ done.length ≤ p ∧ Hid (LnsAt s.data.toList f p done) ∧
      wr.ownsRow w.heap.size 89 3 v done.length (done.flatMap lnv) ∧ Below w.heap.size w wr) (fun _ a _ => s.size + 1 - (intOf a).toNat)
  case atStart => exact ⟨s.size + 1, 0, [], rfl, by omega, by omega, by simp, Lib.hid (by simp [LnsAt]), World.ownsRow_nil _ _ _ _, Below.refl _ _⟩
  case round =>
    obtain ⟨f, p, done, rfl, hp, hf, hd, hl, hown, hbel⟩ := hrel
    have hsz := hbel.size
    by_cases hlt : p < s.size
    · go_wp2_with fail
      refine (cut_any (s.extract p s.size) _ (by simp; omega)).mono ?_
      rintro e w' ⟨x, b, rfl, n, rfl⟩
      obtain ⟨R, hR⟩ : ∃ R, row (s.extract p s.size).data.toList = R := ⟨_, rfl⟩
      have hRl : R.length + p ≤ s.size := by
        have := row_le (s.extract p s.size).data.toList
        rw [hR] at this; simp at this; omega
      rw [hR]
      have HR := Lib.hid hR
      clear hR
      go_wp2_with fail
      refine (line_list p R _ (by omega) (by omega)).mono ?_
      rintro e w2 ⟨rfl, hb2⟩
      obtain ⟨k, hk⟩ : ∃ k, R.length - (beh R).length = k := ⟨_, rfl⟩
      obtain ⟨T, hT⟩ : ∃ T, beh R = T := ⟨_, rfl⟩
      rw [hT] at hk ⊢
      rw [hk]
      have HK := Lib.hid hk
      have HT := Lib.hid hT
      clear hk hT
      have hown2 := own_below (own_drewN hown n) hb2
      have hb3 : Below w.heap.size w w2 := (bel_drewN hbel n).trans (hb2.mono (by simp; omega))
      have hsz2 := hb3.size
      have hz3 : Below w.heap.size w (w2.alloc (.cells #[.int .i64 p, .int .i64 k, .string ⟨T.toArray⟩] 89)) := hb3.alloc hsz2 _
      clear hb2 hbel hown
      go_wp2_with (at_builtin; refine wpList_append_own _ rfl _ _ 86 rfl w.heap.size 89 i0 (.agg #[.int .i64 0, .int .i64 0, .string ⟨#[]⟩]) 3 32 Tryz.underlying86 hi hz0 hz1 hz2 rfl (by decide) _ _ _ rfl (hown2.alloc _) ⟨w2.heap.size, 0, none⟩ 1 1 [.int .i64 p, .int .i64 k, .string ⟨T.toArray⟩] rfl rfl ?c1 ?c2 ?c3 ?c4 ?c5 ?_)
      case c1 => intro j u hj; exact cells_new w2 _ _ j u hj
      case c2 => intro u hu; simp at hu; rcases hu with rfl | rfl | rfl <;> rfl
      case c3 => unfold maxLen at *; omega
      case c4 => omega
      case c5 => simp; omega
      intro v' w3 hown3 hgrow _
      have hb4 : Below w.heap.size w w3 := below_of_grown hz3 hgrow (by simp; omega) (hown2.alloc _)
      clear hown2 hz3 hgrow
      go_wp2
      go_roundw
      case rel =>
        cases f with
        | zero => omega
        | succ f =>
          refine ⟨f, p + R.length + 1, done ++ [(p, k, T)], by go_num, by omega, by omega, by simp; omega, Lib.hid (lnsAt_step hl.out (by simpa using hlt) (by rw [← extract_drop]; exact HR.out) HT.out HK.out), ?_, hb4⟩
          simpa [lnv] using hown3
      case measure => simp [intOf]; omega
    · go_wp2
      go_ret
      have e1 := lnsAt_end hl.out (by simp; omega)
      simp only [Array.length_toList] at e1
      rw [e1] at hown
      exact ⟨_, rfl, hown, hbel⟩
end Go.Proofs.YtnnnanemefcmdaaGreatDoor
namespace Go.Proofs.YtnnnanemefcmdaaGreatDoor
open Go.RowKit

theorem lns_ex : lns 6 [97, 10, 32, 32, 98] 0 = [(0, 0, [97]), (2, 2, [98])] := by decide +kernel
theorem ck_ex : ck ⟨#[1]⟩ = (2, 0) := by decide +kernel

theorem own_cells {w : World} {base : Nat} {e : TypeId} {size n : Nat} {v : Value} {xs : List Value} (h : w.ownsRow base e size v n xs) (hn : 0 < n) :
    ∃ g cap, v = .slice (some ⟨g, 0, none⟩) n cap ∧ n ≤ cap ∧ cap ≤ maxLen ∧ base ≤ g ∧ g < w.heap.size ∧ ∀ j u, xs[j]? = some u → w.cell? ⟨g, j, none⟩ = some u := by
  have h0 := h
  rcases h.2 with ⟨_, h2⟩ | ⟨g, cap, cur, rfl, hg, hgg, hnc, hcm, _⟩
  · omega
  · refine ⟨g, cap, rfl, hnc, hcm, hg, (Array.getElem?_eq_some_iff.1 hgg).1, fun j u hj => ?_⟩
    have := World.ownsRow.cells h0 (g := g) rfl j u hj
    rwa [show (⟨g, 0, none⟩ : Addr).add j = ⟨g, j, none⟩ by simp [Addr.add, eq_comm]] at this

set_option maxRecDepth 100000 in
set_option maxHeartbeats 1000000 in
theorem awake2_any (w : World) :
    Calls Tryz.prog 20 #[] w fun e w' => e = .returned (.bool true) ∧ Below w.heap.size w w' := by
  go_enter Tryz.func20, Tryz.ntmps20
  go_wp2_with fail
  refine (lines_any ⟨#[97, 10, 32, 32, 98]⟩ _ (by decide)).mono ?_
  rintro e w1 ⟨v, rfl, hown, hb⟩
  rw [show lns ((⟨#[97, 10, 32, 32, 98]⟩ : ByteArray).size + 1) (⟨#[97, 10, 32, 32, 98]⟩ : ByteArray).data.toList 0 = [(0, 0, [97]), (2, 2, [98])] from lns_ex] at hown
  obtain ⟨g, cap, rfl, hnc, hcm, hg, hgl, hc⟩ := own_cells hown (by simp)
  have c3 : w1.cell? ⟨g, 3, none⟩ = some (.int .i64 2) := hc 3 _ rfl
  have c4 : w1.cell? ⟨g, 4, none⟩ = some (.int .i64 2) := hc 4 _ rfl
  have c5 : w1.cell? ⟨g, 5, none⟩ = some (.string ⟨#[98]⟩) := hc 5 _ rfl
  clear hc hown
  go_wp2_with fail
  refine (check_any ⟨#[1]⟩ _ (by decide)).mono ?_
  rintro e w2 ⟨rfl, hb2⟩
  rw [ck_ex]
  have hb3 : Below w.heap.size w w2 := hb.trans (hb2.mono hb.size)
  go_wp2_with fail
  refine (bad_any _ _ _).mono ?_
  rintro e w3 ⟨rfl, hb4⟩
  have hb5 : Below w.heap.size w w3 := hb3.trans (hb4.mono hb3.size)
  go_wp2
  go_ret
  exact ⟨rfl, hb5⟩
end Go.Proofs.YtnnnanemefcmdaaGreatDoor
namespace Go.Proofs.YtnnnanemefcmdaaGreatDoor
open Go.RowKit

def letterB (c : Nat) : Bool := decide (97 ≤ c ∧ c ≤ 122 ∨ 65 ≤ c ∧ c ≤ 90 ∨ c = 95)
def wordB (c : Nat) : Bool := decide (97 ≤ c ∧ c ≤ 122 ∨ 65 ≤ c ∧ c ≤ 90 ∨ c = 95 ∨ 48 ≤ c ∧ c ≤ 57 ∨ c = 45)
def flowB (c : Nat) : Bool := decide (c = 44 ∨ c = 91 ∨ c = 93 ∨ c = 123 ∨ c = 125)
def opensB (c : Nat) : Bool := decide ((c = 44 ∨ c = 91 ∨ c = 93 ∨ c = 123 ∨ c = 125) ∨ c = 96 ∨ c = 45 ∨ c = 63 ∨ c = 58 ∨ c = 35 ∨ c = 38 ∨ c = 42 ∨ c = 33 ∨ c = 124 ∨ c = 62 ∨ c = 39 ∨ c = 34 ∨ c = 37 ∨ c = 64)
/-- Is c among the bytes of l? -/
def amongB (c : Nat) (l : List UInt8) : Bool := l.any fun b => b.toNat == c
def wordL : List UInt8 := [97,98,99,100,101,102,103,104,105,106,107,108,109,110,111,112,113,114,115,116,117,118,119,120,121,122,65,66,67,68,69,70,71,72,73,74,75,76,77,78,79,80,81,82,83,84,85,86,87,88,89,90,48,49,50,51,52,53,54,55,56,57,95,45]
def flowL : List UInt8 := [44, 91, 93, 123, 125]
def opensL : List UInt8 := [45, 63, 58, 35, 38, 42, 33, 124, 62, 39, 34, 37, 64]
theorem among_word : ∀ c : Fin 256, amongB c.val wordL = wordB c.val := by decide +kernel
theorem among_flow : ∀ c : Fin 256, amongB c.val flowL = flowB c.val := by decide +kernel
theorem among_opens : ∀ c : Fin 256, (flowB c.val || (c.val == 96) || amongB c.val opensL) = opensB c.val := by decide +kernel
def cutsB (c : Nat) (fl : Bool) : Bool := decide (c = 32) || fl && flowB c
theorem ret_b {a b : Bool} (h : a = b) : Ending.returned (.bool a) = .returned (.bool b) := by rw [h]
end Go.Proofs.YtnnnanemefcmdaaGreatDoor
namespace Go.Proofs.YtnnnanemefcmdaaGreatDoor
open Go.RowKit

set_option maxRecDepth 100000 in
set_option maxHeartbeats 1000000 in
theorem letter_any (c : Nat) (w : World) (hc : c < 256) :
    Calls Tryz.prog 96 #[.int .u8 c] w fun e w' => e = .returned (.bool (letterB c)) ∧ w = w' := by
  go_enter Tryz.func96, Tryz.ntmps96
  go_wp2
  all_goals
    go_ret
    exact ⟨ret_b (by rw [Bool.eq_iff_iff]; simp [letterB]; omega), rfl⟩

set_option maxRecDepth 100000 in
set_option maxHeartbeats 1000000 in
theorem word_any (c : Nat) (w : World) (hc : c < 256) :
    Calls Tryz.prog 67 #[.int .u8 c] w fun e w' => e = .returned (.bool (wordB c)) ∧ w = w' := by
  have hl : letterB c = decide (97 ≤ c ∧ c ≤ 122 ∨ 65 ≤ c ∧ c ≤ 90 ∨ c = 95) := rfl
  cases h : letterB c with
  | true =>
    have HL := Lib.hid (hl.symm.trans h)
    clear hl h
    go_enter Tryz.func67, Tryz.ntmps67
    go_wp2_with fail
    refine (letter_any c _ hc).mono ?_
    rintro e w' ⟨rfl, rfl⟩
    rw [show letterB c = true from HL.out]
    go_wp2
    all_goals
      go_ret
      exact ⟨ret_b (by have := HL.out; rw [Bool.eq_iff_iff]; simp [wordB] at *; omega), rfl⟩
  | false =>
    have HL := Lib.hid (hl.symm.trans h)
    clear hl h
    go_enter Tryz.func67, Tryz.ntmps67
    go_wp2_with fail
    refine (letter_any c _ hc).mono ?_
    rintro e w' ⟨rfl, rfl⟩
    rw [show letterB c = false from HL.out]
    go_wp2
    all_goals
      go_ret
      exact ⟨ret_b (by have := HL.out; rw [Bool.eq_iff_iff]; simp [wordB] at *; omega), rfl⟩

theorem snoc_take (s : ByteArray) (k : Nat) (h : k < s.size) : s.data.toList.take (k + 1) = s.data.toList.take k ++ [s[k]] := by
  rw [List.take_succ_eq_append_getElem (by simpa using h)]; rfl

set_option maxRecDepth 100000 in
set_option maxHeartbeats 1000000 in
theorem flow_any (c : Nat) (w : World) (_hc : c < 256) :
    Calls Tryz.prog 72 #[.int .u8 c] w fun e w' => e = .returned (.bool (flowB c)) ∧ w = w' := by
  go_enter Tryz.func72, Tryz.ntmps72
  go_wp2
  all_goals
    go_ret
    exact ⟨ret_b (by rw [Bool.eq_iff_iff]; simp only [beq_iff_eq, beq_eq_false_iff_ne, ne_eq, flowB, decide_eq_true_eq] at *; simp <;> omega), rfl⟩

set_option maxRecDepth 100000 in
set_option maxHeartbeats 1000000 in
theorem opens_any (c : Nat) (w : World) (hc : c < 256) :
    Calls Tryz.prog 62 #[.int .u8 c] w fun e w' => e = .returned (.bool (opensB c)) ∧ w = w' := by
  have hf : flowB c = decide (c = 44 ∨ c = 91 ∨ c = 93 ∨ c = 123 ∨ c = 125) := rfl
  have HF := Lib.hid hf
  clear hf
  go_enter Tryz.func62, Tryz.ntmps62
  go_wp2_with (go_at_call 72; refine (flow_any c _ hc).mono ?_; rintro e w' ⟨rfl, rfl⟩)
  all_goals
    go_ret
    exact ⟨ret_b (by have := HF.out; rw [Bool.eq_iff_iff]; simp only [beq_iff_eq, beq_eq_false_iff_ne, ne_eq, opensB, decide_eq_true_eq] at *; simp [this] <;> omega), rfl⟩

set_option maxRecDepth 100000 in
set_option maxHeartbeats 1000000 in
theorem among_any (c : Nat) (s : ByteArray) (w : World) (_hc : c < 256) (hs : s.size ≤ maxLen) :
    Calls Tryz.prog 73 #[.int .u8 c, .string s] w fun e w' => e = .returned (.bool (amongB c s.data.toList)) ∧ w = w' := by
  unfold maxLen at hs
  go_enter Tryz.func73, Tryz.ntmps73
  go_wp2
  go_loop [5] (fun i => ∃ k : Nat, k ≤ s.size ∧ i = .int .i64 k ∧ Hid (amongB c (s.data.toList.take k) = false)) (fun i => s.size - (intOf i).toNat)
  case atStart => exact ⟨0, Nat.zero_le _, rfl, Lib.hid (by simp [amongB])⟩
  case round =>
    obtain ⟨k, hk, rfl, hno⟩ := hrel
    by_cases hlt : k < s.size
    · go_wp2
      · go_ret
        have hh : s[k].toNat = c := by have h' := ‹(_ == _) = true›; simp at h'; omega
        exact ⟨ret_b (by
          symm
          simp only [amongB, List.any_eq_true]
          exact ⟨s[k], by simp only [Array.mem_toList_iff]; exact Array.getElem_mem _, by simp [hh]⟩), rfl⟩
      · go_round
        case rel =>
          have hh : s[k].toNat ≠ c := by have h' := ‹(_ == _) = false›; simp at h'; omega
          exact ⟨k + 1, by omega, by go_num, Lib.hid (by
            have := hno.out
            rw [snoc_take s k hlt]
            simp only [amongB, List.any_append] at *
            rw [this]; simp [hh])⟩
        case measure => simp [intOf]; omega
    · go_wp2
      go_ret
      have := hno.out
      rw [List.take_of_length_le (by simp; omega)] at this
      exact ⟨ret_b this.symm, rfl⟩

set_option maxRecDepth 100000 in
set_option maxHeartbeats 1000000 in
theorem refWord_any (c : Nat) (w : World) (hc : c < 256) :
    Calls Tryz.prog 74 #[.int .u8 c] w fun e w' => e = .returned (.bool (wordB c)) ∧ w = w' := by
  go_enter Tryz.func74, Tryz.ntmps74
  go_wp2_with fail
  refine (among_any c ⟨wordL.toArray⟩ _ hc (by decide)).mono ?_
  rintro e w' ⟨rfl, rfl⟩
  rw [show amongB c (ByteArray.mk wordL.toArray).data.toList = wordB c from among_word ⟨c, hc⟩]
  go_wp2
  go_ret
  exact ⟨rfl, rfl⟩
set_option maxRecDepth 100000 in
set_option maxHeartbeats 1000000 in
theorem refFlow_any (c : Nat) (w : World) (hc : c < 256) :
    Calls Tryz.prog 37 #[.int .u8 c] w fun e w' => e = .returned (.bool (flowB c)) ∧ w = w' := by
  go_enter Tryz.func37, Tryz.ntmps37
  go_wp2_with fail
  refine (among_any c ⟨flowL.toArray⟩ _ hc (by decide)).mono ?_
  rintro e w' ⟨rfl, rfl⟩
  rw [show amongB c (ByteArray.mk flowL.toArray).data.toList = flowB c from among_flow ⟨c, hc⟩]
  go_wp2
  go_ret
  exact ⟨rfl, rfl⟩
set_option maxRecDepth 100000 in
set_option maxHeartbeats 1000000 in
theorem refOpens_any (c : Nat) (w : World) (hc : c < 256) :
    Calls Tryz.prog 79 #[.int .u8 c] w fun e w' => e = .returned (.bool (opensB c)) ∧ w = w' := by
  have hh := Lib.hid (among_opens ⟨c, hc⟩)
  cases hf : flowB c with
  | true =>
    have HF := Lib.hid hf
    clear hf
    go_enter Tryz.func79, Tryz.ntmps79
    go_wp2_with fail
    refine (refFlow_any c _ hc).mono ?_
    rintro e w' ⟨rfl, rfl⟩
    rw [HF.out]
    go_wp2
    go_ret
    exact ⟨ret_b (by have := hh.out; simp [HF.out] at this; exact this.symm), rfl⟩
  | false =>
    have HF := Lib.hid hf
    clear hf
    by_cases h96 : c = 96
    · subst h96
      go_enter Tryz.func79, Tryz.ntmps79
      go_wp2_with fail
      refine (refFlow_any 96 _ hc).mono ?_
      rintro e w' ⟨rfl, rfl⟩
      rw [HF.out]
      go_wp2
      go_ret
      exact ⟨rfl, rfl⟩
    · have k1 : ((c : Int) == 96) = false := by simp; omega
      go_enter Tryz.func79, Tryz.ntmps79
      go_wp2_with fail
      refine (refFlow_any c _ hc).mono ?_
      rintro e w' ⟨rfl, rfl⟩
      rw [HF.out]
      go_wp2_with fail
      refine (among_any c ⟨opensL.toArray⟩ _ hc (by decide)).mono ?_
      rintro e w' ⟨rfl, rfl⟩
      have hb : (c == 96) = false := by simp [h96]
      have ho : amongB c opensL = opensB c := by have := hh.out; simpa [HF.out, hb] using this
      rw [show amongB c (ByteArray.mk opensL.toArray).data.toList = opensB c from ho]
      clear hb ho
      go_wp2
      go_ret
      exact ⟨rfl, rfl⟩

set_option maxRecDepth 100000 in
set_option maxHeartbeats 1000000 in
theorem cuts_any (c : Nat) (fl : Bool) (w : World) (hc : c < 256) :
    Calls Tryz.prog 71 #[.int .u8 c, .bool fl] w fun e w' => e = .returned (.bool (cutsB c fl)) ∧ w = w' := by
  by_cases h : c = 32
  · subst h
    go_enter Tryz.func71, Tryz.ntmps71
    go_wp2
    go_ret
    exact ⟨rfl, rfl⟩
  · have k1 : ((c : Int) == 32) = false := by simp; omega
    have k2 : cutsB c fl = (fl && flowB c) := by simp [cutsB, h]
    have K2 := Lib.hid k2
    clear k2
    cases fl with
    | false =>
      go_enter Tryz.func71, Tryz.ntmps71
      go_wp2
      go_ret
      exact ⟨ret_b K2.out.symm, rfl⟩
    | true =>
      go_enter Tryz.func71, Tryz.ntmps71
      go_wp2_with fail
      refine (flow_any c _ hc).mono ?_
      rintro e w' ⟨rfl, rfl⟩
      go_wp2
      go_ret
      exact ⟨ret_b (by rw [K2.out]; simp), rfl⟩
end Go.Proofs.YtnnnanemefcmdaaGreatDoor
namespace Go.Proofs.YtnnnanemefcmdaaGreatDoor
open Go.RowKit

/-- Does a colon part at i? -/
def partsB (s : ByteArray) (i : Nat) (fl : Bool) : Bool := decide (i < s.size) && decide (bt s i = 58) && (decide (i + 1 = s.size) || cutsB (bt s (i + 1)) fl)
theorem ne_true {s : ByteArray} {i c : Nat} (h : i < s.size) (hc : bt s i ≠ c) : ((s[i].toNat : Int) != c) = true ∧ ((s[i].toNat : Int) == c) = false := by
  have e := bt_get s i h
  have : (s[i].toNat : Int) ≠ c := by rw [e]; omega
  exact ⟨by simp [bne_iff_ne, this], by simp [this]⟩
theorem eq_true {s : ByteArray} {i c : Nat} (h : i < s.size) (hc : bt s i = c) : ((s[i].toNat : Int) != c) = false ∧ ((s[i].toNat : Int) == c) = true := by
  have e := bt_get s i h
  have : (s[i].toNat : Int) = c := by rw [e]; omega
  exact ⟨by simp [this], by simp [this]⟩

set_option maxRecDepth 100000 in
set_option maxHeartbeats 1000000 in
theorem parts_any (s : ByteArray) (i : Nat) (fl : Bool) (w : World) (h : i < s.size) (hs : s.size ≤ 4000) :
    Calls Tryz.prog 33 #[.string s, .int .i64 i, .bool fl] w fun e w' => e = .returned (.bool (partsB s i fl)) ∧ w = w' := by
  by_cases h58 : bt s i = 58
  · have k1 : ((s[i].toNat : Int) != 58) = false := (eq_true (c := 58) h h58).1
    by_cases h1 : i + 1 = s.size
    · have hp : partsB s i fl = true := by simp [partsB, h, h58, h1]
      have HP := Lib.hid hp
      have k3 : ((i : Int) + 1 == (s.size : Int)) = true := by simp; omega
      clear hp h58 h1
      go_enter Tryz.func33, Tryz.ntmps33
      go_wp2
      go_ret
      exact ⟨ret_b HP.out.symm, rfl⟩
    · have h2 : i + 1 < s.size := by omega
      have hp : partsB s i fl = cutsB (bt s (i + 1)) fl := by simp [partsB, h, h58, h1]
      have HP := Lib.hid hp
      have k3 : ((i : Int) + 1 == (s.size : Int)) = false := by simp; omega
      clear hp h58 h1
      go_enter Tryz.func33, Tryz.ntmps33
      go_wp2_with fail
      refine (cuts_any _ fl _ (UInt8.toNat_lt _)).mono ?_
      rintro e w' ⟨rfl, rfl⟩
      rw [show cutsB (s[i + 1].toNat) fl = partsB s i fl by rw [HP.out, bt_get]]
      go_wp2
      go_ret
      exact ⟨rfl, rfl⟩
  · have k1 : ((s[i].toNat : Int) != 58) = true := (ne_true (c := 58) h h58).1
    have hp : partsB s i fl = false := by simp [partsB, h58]
    have HP := Lib.hid hp
    clear hp h58
    go_enter Tryz.func33, Tryz.ntmps33
    go_wp2
    go_ret
    exact ⟨ret_b HP.out.symm, rfl⟩

/-- Out of the text nothing parts. -/
theorem parts_out (s : ByteArray) (i : Int) (fl : Bool) (w : World) (h : i < 0 ∨ (s.size : Int) ≤ i) (hs : s.size ≤ 4000) :
    Calls Tryz.prog 33 #[.string s, .int .i64 i, .bool fl] w fun e w' => e = .returned (.bool false) ∧ w = w' := by
  rcases h with h | h
  · go_enter Tryz.func33, Tryz.ntmps33
    go_wp2
    go_ret
    exact ⟨rfl, rfl⟩
  · have h0 : (0 : Int) ≤ i := by omega
    go_enter Tryz.func33, Tryz.ntmps33
    go_wp2
    go_ret
    exact ⟨rfl, rfl⟩
theorem refParts_out (s : ByteArray) (i : Int) (fl : Bool) (w : World) (h : i < 0 ∨ (s.size : Int) ≤ i) (hs : s.size ≤ 4000) :
    Calls Tryz.prog 44 #[.string s, .int .i64 i, .bool fl] w fun e w' => e = .returned (.bool false) ∧ w = w' := by
  rcases h with h | h
  · go_enter Tryz.func44, Tryz.ntmps44
    go_wp2
    go_ret
    exact ⟨rfl, rfl⟩
  · have h0 : (0 : Int) ≤ i := by omega
    go_enter Tryz.func44, Tryz.ntmps44
    go_wp2
    go_ret
    exact ⟨rfl, rfl⟩

set_option maxRecDepth 100000 in
set_option maxHeartbeats 1000000 in
theorem refParts_any (s : ByteArray) (i : Nat) (fl : Bool) (w : World) (h : i < s.size) (hs : s.size ≤ 4000) :
    Calls Tryz.prog 44 #[.string s, .int .i64 i, .bool fl] w fun e w' => e = .returned (.bool (partsB s i fl)) ∧ w = w' := by
  by_cases h58 : bt s i = 58
  · have k1 : ((s[i].toNat : Int) != 58) = false := (eq_true (c := 58) h h58).1
    by_cases h1 : i + 1 = s.size
    · have hp : partsB s i fl = true := by simp [partsB, h, h58, h1]
      have HP := Lib.hid hp
      have k3 : ((i : Int) == (s.size : Int) - 1) = true := by simp; omega
      clear hp h58 h1
      go_enter Tryz.func44, Tryz.ntmps44
      go_wp2
      go_ret
      exact ⟨ret_b HP.out.symm, rfl⟩
    · have h2 : i + 1 < s.size := by omega
      have hp : partsB s i fl = cutsB (bt s (i + 1)) fl := by simp [partsB, h, h58, h1]
      have k3 : ((i : Int) == (s.size : Int) - 1) = false := by simp; omega
      by_cases h32 : bt s (i + 1) = 32
      · have k4 : ((s[i + 1].toNat : Int) == 32) = true := (eq_true (c := 32) h2 h32).2
        have HP := Lib.hid (hp.trans (show cutsB (bt s (i + 1)) fl = true by simp [cutsB, h32]))
        clear hp h58 h1 h32
        go_enter Tryz.func44, Tryz.ntmps44
        go_wp2
        go_ret
        exact ⟨ret_b HP.out.symm, rfl⟩
      · have k4 : ((s[i + 1].toNat : Int) == 32) = false := (ne_true (c := 32) h2 h32).2
        cases fl with
        | false =>
          have HP := Lib.hid (hp.trans (show cutsB (bt s (i + 1)) false = false by simp [cutsB, h32]))
          clear hp h58 h1 h32
          go_enter Tryz.func44, Tryz.ntmps44
          go_wp2
          go_ret
          exact ⟨ret_b HP.out.symm, rfl⟩
        | true =>
          have HP := Lib.hid (hp.trans (show cutsB (bt s (i + 1)) true = flowB (bt s (i + 1)) by simp [cutsB, h32]))
          clear hp h58 h1 h32
          go_enter Tryz.func44, Tryz.ntmps44
          go_wp2_with fail
          refine (refFlow_any _ _ (UInt8.toNat_lt _)).mono ?_
          rintro e w' ⟨rfl, rfl⟩
          rw [show flowB (s[i + 1].toNat) = partsB s i true by rw [HP.out, bt_get]]
          go_wp2
          go_ret
          exact ⟨rfl, rfl⟩
  · have k1 : ((s[i].toNat : Int) != 58) = true := (ne_true (c := 58) h h58).1
    have hp : partsB s i fl = false := by simp [partsB, h58]
    have HP := Lib.hid hp
    clear hp h58
    go_enter Tryz.func44, Tryz.ntmps44
    go_wp2
    go_ret
    exact ⟨ret_b HP.out.symm, rfl⟩

/-- May a plain text begin at i? -/
def beginsB (s : ByteArray) (i : Nat) (fl : Bool) : Bool :=
  if bt s i = 32 then false
  else if bt s i = 45 ∨ bt s i = 63 ∨ bt s i = 58 then decide (i + 1 < s.size) && !cutsB (bt s (i + 1)) fl
  else !opensB (bt s i)
/-- Does a plain text end ahead of i? -/
def endsB (s : ByteArray) (i : Nat) (fl : Bool) : Bool :=
  if bt s i = 58 then partsB s i fl else if bt s i = 35 then decide (bt s (i - 1) = 32) else fl && flowB (bt s i)
end Go.Proofs.YtnnnanemefcmdaaGreatDoor
