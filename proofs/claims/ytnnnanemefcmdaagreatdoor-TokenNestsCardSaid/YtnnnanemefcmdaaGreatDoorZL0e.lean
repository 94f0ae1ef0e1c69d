/- The walk of the document's Bytes. -/
import Derived.Test.YtnnnanemefcmdaaGreatDoorZL0a
import Derived.WalkSpells
import Derived.Lib.Hide
import Derived.Test.YtnnnanemefcmdaaGreatDoorZL0d
import Derived.Test.YtnnnanemefcmdaaGreatDoorZL0c
import Derived.Test.YtnnnanemefcmdaaGreatDoorRows
import Derived.Test.YtnnnanemefcmdaaGreatDoorZL0b
import Derived.Lib.ValidU
import Derived.Lib.TrimUEq
import Derived.Shelf.GgClosure.StringsIndexFunc
import Derived.Lib.TrimAscii
import Derived.Lib.TrimU
import Derived.Test.YtnnnanemefcmdaaGreatDoorShelf
import Derived.Deep.RegionHeld3
import Derived.Deep.DeepCutAuto
namespace Go.Proofs.YtnnnanemefcmdaaGreatDoor
open Go.RowKit

set_option maxRecDepth 100000 in
set_option maxHeartbeats 2000000 in
theorem bytes_1 (c : Int) (w : World) (h0 : 0 ≤ c) (h1 : c < 128) :
    Calls Tryz.prog 78 #[.int .i64 c] w fun e w' => ∃ v, e = .returned v ∧ w'.ownsRow w.heap.size 5 1 v (encB c.toNat).length (bv (encB c.toNat)) ∧ Below w.heap.size w w' := by
  have HE : Hid (encB c.toNat = [UInt8.ofNat (c.toNat)] ∧ bv [UInt8.ofNat (c.toNat)] = [.int .u8 (c)]) := Lib.hid (by
    obtain ⟨n, rfl⟩ : ∃ n : Nat, c = n := ⟨c.toNat, by omega⟩
    simp only [Int.toNat_natCast]
    exact ⟨by unfold encB; rw [if_pos (by omega)], by simp only [bv, List.map_cons, List.map_nil, nat8 (show n < 256 by omega)]⟩)
  go_enter Tryz.func78, Tryz.ntmps78
  go_wp2
  go_ret
  refine ⟨_, rfl, ?_, (Below.refl _ _).alloc (Nat.le_refl _) _⟩
  obtain ⟨h1, h2⟩ := HE.out
  have := own_lit w [UInt8.ofNat (c.toNat)] (by show 1 ≤ maxLen; decide) _ (Nat.le_refl _)
  rw [h1]
  rw [h2] at this ⊢
  exact this
set_option maxRecDepth 100000 in
set_option maxHeartbeats 2000000 in
theorem bytes_2 (c : Int) (w : World) (h0 : 128 ≤ c) (h1 : c < 2048) :
    Calls Tryz.prog 78 #[.int .i64 c] w fun e w' => ∃ v, e = .returned v ∧ w'.ownsRow w.heap.size 5 1 v (encB c.toNat).length (bv (encB c.toNat)) ∧ Below w.heap.size w w' := by
  have HE : Hid (encB c.toNat = [UInt8.ofNat (192 + c.toNat / 64), UInt8.ofNat (128 + c.toNat % 64)] ∧ bv [UInt8.ofNat (192 + c.toNat / 64), UInt8.ofNat (128 + c.toNat % 64)] = [.int .u8 (192 + c / 64), .int .u8 (128 + c % 64)]) := Lib.hid (by
    obtain ⟨n, rfl⟩ : ∃ n : Nat, c = n := ⟨c.toNat, by omega⟩
    simp only [Int.toNat_natCast]
    exact ⟨by unfold encB; rw [if_neg (by omega), if_pos (by omega)], by simp only [bv, List.map_cons, List.map_nil, nat8 (show 192 + n / 64 < 256 by omega), nat8 (show 128 + n % 64 < 256 by omega)]; simp⟩)
  go_enter Tryz.func78, Tryz.ntmps78
  go_wp2
  go_ret
  refine ⟨_, rfl, ?_, (Below.refl _ _).alloc (Nat.le_refl _) _⟩
  obtain ⟨h1, h2⟩ := HE.out
  have := own_lit w [UInt8.ofNat (192 + c.toNat / 64), UInt8.ofNat (128 + c.toNat % 64)] (by show 2 ≤ maxLen; decide) _ (Nat.le_refl _)
  rw [h1]
  rw [h2] at this ⊢
  exact this
set_option maxRecDepth 100000 in
set_option maxHeartbeats 2000000 in
theorem bytes_3 (c : Int) (w : World) (h0 : 2048 ≤ c) (h1 : c < 65536) :
    Calls Tryz.prog 78 #[.int .i64 c] w fun e w' => ∃ v, e = .returned v ∧ w'.ownsRow w.heap.size 5 1 v (encB c.toNat).length (bv (encB c.toNat)) ∧ Below w.heap.size w w' := by
  have HE : Hid (encB c.toNat = [UInt8.ofNat (224 + c.toNat / 4096), UInt8.ofNat (128 + c.toNat / 64 % 64), UInt8.ofNat (128 + c.toNat % 64)] ∧ bv [UInt8.ofNat (224 + c.toNat / 4096), UInt8.ofNat (128 + c.toNat / 64 % 64), UInt8.ofNat (128 + c.toNat % 64)] = [.int .u8 (224 + c / 4096), .int .u8 (128 + c / 64 % 64), .int .u8 (128 + c % 64)]) := Lib.hid (by
    obtain ⟨n, rfl⟩ : ∃ n : Nat, c = n := ⟨c.toNat, by omega⟩
    simp only [Int.toNat_natCast]
    exact ⟨by unfold encB; rw [if_neg (by omega), if_neg (by omega), if_pos (by omega)], by simp only [bv, List.map_cons, List.map_nil, nat8 (show 224 + n / 4096 < 256 by omega), nat8 (show 128 + n / 64 % 64 < 256 by omega), nat8 (show 128 + n % 64 < 256 by omega)]; simp⟩)
  go_enter Tryz.func78, Tryz.ntmps78
  go_wp2
  go_ret
  refine ⟨_, rfl, ?_, (Below.refl _ _).alloc (Nat.le_refl _) _⟩
  obtain ⟨h1, h2⟩ := HE.out
  have := own_lit w [UInt8.ofNat (224 + c.toNat / 4096), UInt8.ofNat (128 + c.toNat / 64 % 64), UInt8.ofNat (128 + c.toNat % 64)] (by show 3 ≤ maxLen; decide) _ (Nat.le_refl _)
  rw [h1]
  rw [h2] at this ⊢
  exact this
set_option maxRecDepth 100000 in
set_option maxHeartbeats 2000000 in
theorem bytes_4 (c : Int) (w : World) (h0 : 65536 ≤ c) (h1 : c < 1114112) :
    Calls Tryz.prog 78 #[.int .i64 c] w fun e w' => ∃ v, e = .returned v ∧ w'.ownsRow w.heap.size 5 1 v (encB c.toNat).length (bv (encB c.toNat)) ∧ Below w.heap.size w w' := by
  have HE : Hid (encB c.toNat = [UInt8.ofNat (240 + c.toNat / 262144), UInt8.ofNat (128 + c.toNat / 4096 % 64), UInt8.ofNat (128 + c.toNat / 64 % 64), UInt8.ofNat (128 + c.toNat % 64)] ∧ bv [UInt8.ofNat (240 + c.toNat / 262144), UInt8.ofNat (128 + c.toNat / 4096 % 64), UInt8.ofNat (128 + c.toNat / 64 % 64), UInt8.ofNat (128 + c.toNat % 64)] = [.int .u8 (240 + c / 262144), .int .u8 (128 + c / 4096 % 64), .int .u8 (128 + c / 64 % 64), .int .u8 (128 + c % 64)]) := Lib.hid (by
    obtain ⟨n, rfl⟩ : ∃ n : Nat, c = n := ⟨c.toNat, by omega⟩
    simp only [Int.toNat_natCast]
    exact ⟨by unfold encB; rw [if_neg (by omega), if_neg (by omega), if_neg (by omega)], by simp only [bv, List.map_cons, List.map_nil, nat8 (show 240 + n / 262144 < 256 by omega), nat8 (show 128 + n / 4096 % 64 < 256 by omega), nat8 (show 128 + n / 64 % 64 < 256 by omega), nat8 (show 128 + n % 64 < 256 by omega)]; simp⟩)
  go_enter Tryz.func78, Tryz.ntmps78
  go_wp2
  go_ret
  refine ⟨_, rfl, ?_, (Below.refl _ _).alloc (Nat.le_refl _) _⟩
  obtain ⟨h1, h2⟩ := HE.out
  have := own_lit w [UInt8.ofNat (240 + c.toNat / 262144), UInt8.ofNat (128 + c.toNat / 4096 % 64), UInt8.ofNat (128 + c.toNat / 64 % 64), UInt8.ofNat (128 + c.toNat % 64)] (by show 4 ≤ maxLen; decide) _ (Nat.le_refl _)
  rw [h1]
  rw [h2] at this ⊢
  exact this
theorem bytes_any (c : Nat) (w : World) (hc : c < 1114112) :
    Calls Tryz.prog 78 #[.int .i64 c] w fun e w' => ∃ v, e = .returned v ∧ w'.ownsRow w.heap.size 5 1 v (encB c).length (bv (encB c)) ∧ Below w.heap.size w w' := by
  have hn : ((c : Int)).toNat = c := by simp
  rw [← hn]
  by_cases h1 : c < 128
  · simpa using bytes_1 (c : Int) w (by omega) (by omega)
  by_cases h2 : c < 2048
  · simpa using bytes_2 (c : Int) w (by omega) (by omega)
  by_cases h3 : c < 65536
  · simpa using bytes_3 (c : Int) w (by omega) (by omega)
  · simpa using bytes_4 (c : Int) w (by omega) (by omega)
end Go.Proofs.YtnnnanemefcmdaaGreatDoor
namespace Go.Proofs.YtnnnanemefcmdaaGreatDoor
open Go.RowKit

theorem rd_ex : rdS ⟨#[39, 97, 39, 39, 98, 39, 99]⟩ 7 1 = some ([97, 39, 98], 6) := by decide +kernel
theorem sgl_ex : sglT ⟨#[39, 97, 39, 39, 98, 39, 99]⟩ 0 = .tuple #[.string ⟨#[97, 39, 98]⟩, .int .i64 6, .agg #[.int .i64 0, .int .i64 0]] := by
  unfold sglT
  rw [show (⟨#[39, 97, 39, 39, 98, 39, 99]⟩ : ByteArray).size = 7 from rfl, rd_ex]; rfl
theorem wd_ex : wdL ⟨#[10, 34, 101, 34]⟩ = [34, 92, 110, 92, 34, 101, 92, 34, 34] := by decide +kernel
theorem ws_ex : wsL (⟨#[97, 39, 98]⟩ : ByteArray).data.toList = [39, 97, 39, 39, 98, 39] := by decide +kernel

set_option maxRecDepth 100000 in
set_option maxHeartbeats 4000000 in
theorem awake5_any (w : World) (ht : TzCell w) (hm : MaxLenCell w) :
    Calls Tryz.prog 13 #[] w fun e w' => e = .returned (.bool true) ∧ Below w.heap.size w w' := by
  have hR := readSingle_yes ⟨#[39, 97, 39, 39, 98, 39, 99]⟩ 0 w (by decide) (by decide) (by decide +kernel)
  rw [sgl_ex] at hR
  go_enter Tryz.func13, Tryz.ntmps13
  go_wp2_with fail
  refine hR.mono ?_
  rintro e w1 ⟨rfl, hb1⟩
  go_wp2_with fail
  refine (awake2_any _).mono ?_
  rintro e w2 ⟨rfl, hb2⟩
  have hb2' := ((Below.refl w1.heap.size w1).alloc (Nat.le_refl _) (.cells #[.int .i64 0, .int .i64 0] 27)).trans (hb2.mono (by simp))
  have hr2 := (hb2.block w1.heap.size (by simp)).trans (heap_alloc_new w1 _)
  have hB2 := hb1.trans (hb2'.mono hb1.size)
  have hl2 : w1.heap.size < w2.heap.size := (Array.getElem?_eq_some_iff.1 hr2).1
  have hD := double_any ⟨#[10, 34, 101, 34]⟩ w2 (by decide) (tz_below ht hB2)
  rw [wd_ex] at hD
  have HR2 := Lib.hid hr2
  clear hR hb2 hb2' hr2
  go_wp2_with fail
  refine hD.mono ?_
  rintro e w3 ⟨rfl, hb3⟩
  have hr3 := (hb3.block w1.heap.size hl2).trans HR2.out
  have rc0 := cell_heap4 hr3 0 _ rfl
  have rc1 := cell_heap4 hr3 1 _ rfl
  have hB3 := hB2.trans (hb3.mono hB2.size)
  clear hD hb3 hr3
  go_wp2_with fail
  refine (bad_any _ _ _).mono ?_
  rintro e w4 ⟨rfl, hb4⟩
  have hB4 := hB3.trans (hb4.mono hB3.size)
  have hS := single_any ⟨#[97, 39, 98]⟩ w4 (by decide) (max_below hm hB4)
  rw [ws_ex] at hS
  clear hb4 rc0 rc1
  go_wp2_with fail
  refine hS.mono ?_
  rintro e w5 ⟨rfl, hb5⟩
  have hB5 := hB4.trans (hb5.mono hB4.size)
  clear hS hb5
  go_wp2
  go_ret
  exact ⟨rfl, hB5⟩
end Go.Proofs.YtnnnanemefcmdaaGreatDoor
namespace Go.Proofs.YtnnnanemefcmdaaGreatDoor
open Go.RowKit

/-- A text by its line feeds. -/
def cutF (s : ByteArray) : Nat → Nat → Nat → List ByteArray
  | 0, _, _ => []
  | f + 1, i, b => if i ≤ s.size then (if i = s.size ∨ bt s i = 10 then s.extract b i :: cutF s f (i + 1) (i + 1) else cutF s f (i + 1) b) else []
def cutB (s : ByteArray) : List ByteArray := cutF s (s.size + 1) 0 0
theorem cutF_end (s : ByteArray) (f i b : Nat) (h : s.size < i) : cutF s f i b = [] := by
  cases f with
  | zero => rfl
  | succ f => rw [cutF, if_neg (by omega)]
theorem cutF_cut {s : ByteArray} {f i b : Nat} (h : i ≤ s.size) (h2 : i = s.size ∨ bt s i = 10) : cutF s (f + 1) i b = s.extract b i :: cutF s f (i + 1) (i + 1) := by rw [cutF, if_pos h, if_pos h2]
theorem cutF_on {s : ByteArray} {f i b : Nat} (h : i < s.size) (h2 : bt s i ≠ 10) : cutF s (f + 1) i b = cutF s f (i + 1) b := by rw [cutF, if_pos (by omega), if_neg (by omega)]
def sv (l : List ByteArray) : List Value := l.map Value.string
theorem sv_len (l : List ByteArray) : (sv l).length = l.length := by simp [sv]
theorem sv_app (l m : List ByteArray) : sv (l ++ m) = sv l ++ sv m := by simp [sv]
theorem infoS : (Tryz.prog.info? 9).map (fun i => (i.zero, i.size, i.bytes)) = some (some (.string ⟨#[]⟩), 1, 16) := by kernel_rfl

end Go.Proofs.YtnnnanemefcmdaaGreatDoor
namespace Go.Proofs.YtnnnanemefcmdaaGreatDoor
open Go.RowKit

theorem cutF_len (s : ByteArray) (f : Nat) : ∀ i b, (cutF s f i b).length ≤ f := by
  induction f with
  | zero => intro i b; simp [cutF]
  | succ f ih =>
    intro i b
    rw [cutF]
    split
    · split
      · have := ih (i + 1) (i + 1); simp; omega
      · have := ih (i + 1) b; omega
    · simp
theorem cutB_len (s : ByteArray) : (cutB s).length ≤ s.size + 1 := cutF_len s _ 0 0
theorem cutF_pos (s : ByteArray) (f : Nat) : ∀ i b, i ≤ s.size → s.size < i + f → 1 ≤ (cutF s f i b).length := by
  induction f with
  | zero => intro i b h h'; omega
  | succ f ih =>
    intro i b h h'
    rw [cutF, if_pos h]
    split
    · simp
    · rename_i hn
      exact ih (i + 1) b (by omega) (by omega)
theorem cutB_pos (s : ByteArray) : 1 ≤ (cutB s).length := cutF_pos s _ 0 0 (by omega) (by omega)
/-- Is a line one that fits? sh: what Shown answers. -/
def okL (sh : ByteArray → Bool) (b : ByteArray) : Bool := sh b && !decide (0 < b.size ∧ bt b (b.size - 1) = 32)
/-- Does a text fit? -/
def fitB (sh : ByteArray → Bool) (s : ByteArray) : Bool := !decide ((cutB s).length < 2 ∨ bt s 0 = 10 ∨ bt s 0 = 32) && (cutB s).all (okL sh)

/-- A world that is another but for draws. -/
def SD (w w' : World) : Prop := ∃ n, w' = w.drewN n
theorem SD.refl (w : World) : SD w w := ⟨0, rfl⟩
theorem SD.drew {w w' : World} (h : SD w w') : SD w w'.drew := by
  obtain ⟨n, rfl⟩ := h; exact ⟨n + 1, by simp [World.drewN, World.drew, Nat.add_assoc]⟩
theorem SD.drewN {w w' : World} (h : SD w w') (k : Nat) : SD w (w'.drewN k) := by
  obtain ⟨n, rfl⟩ := h; exact ⟨n + k, by simp⟩
theorem SD.cell {w w' : World} (h : SD w w') (a : Addr) : w'.cell? a = w.cell? a := by
  obtain ⟨n, rfl⟩ := h; rfl
theorem SD.below {w w' : World} (h : SD w w') {B : Nat} {u : World} (hb : Below B u w) : Below B u w' := by
  obtain ⟨n, rfl⟩ := h; exact bel_drewN hb n
theorem own_cellsS {w : World} {base : Nat} {v : Value} {L : List ByteArray} (h : w.ownsRow base 9 1 v L.length (sv L)) (hn : 0 < L.length) :
    ∃ g cap, v = .slice (some ⟨g, 0, none⟩) L.length cap ∧ L.length ≤ cap ∧ cap ≤ maxLen ∧ base ≤ g ∧ g < w.heap.size ∧ ∀ j b, L[j]? = some b → w.cell? ⟨g, j, none⟩ = some (.string b) := by
  have h0 := h
  rcases h.2 with ⟨_, h2⟩ | ⟨g, cap, cur, rfl, hg, hgg, hnc, hcm, _⟩
  · omega
  · refine ⟨g, cap, rfl, hnc, hcm, hg, (Array.getElem?_eq_some_iff.1 hgg).1, fun j b hj => ?_⟩
    have := World.ownsRow.cells h0 (g := g) rfl j (.string b) (by simp [sv, hj])
    rwa [show (⟨g, 0, none⟩ : Addr).add j = ⟨g, j, none⟩ by simp [Addr.add, eq_comm]] at this
end Go.Proofs.YtnnnanemefcmdaaGreatDoor
namespace Go.Proofs.YtnnnanemefcmdaaGreatDoor
open Go.RowKit

def blk (n : Nat) : List UInt8 := List.replicate n 32
theorem blk_len (n : Nat) : (blk n).length = n := by simp [blk]
theorem blk_snoc (n : Nat) : blk n ++ [32] = blk (n + 1) := by simp [blk, List.replicate_succ']

end Go.Proofs.YtnnnanemefcmdaaGreatDoor
namespace Go.Proofs.YtnnnanemefcmdaaGreatDoor

/-- A text by its line feeds. -/
def sp : List UInt8 → List (List UInt8)
  | [] => [[]]
  | b :: l => if b = 10 then [] :: sp l else match sp l with
    | r :: rs => (b :: r) :: rs
    | [] => [[b]]
theorem sp_some (l : List UInt8) : ∃ r rs, sp l = r :: rs := by
  cases l with
  | nil => exact ⟨_, _, rfl⟩
  | cons b l =>
    rw [sp]
    split
    · exact ⟨_, _, rfl⟩
    · split <;> exact ⟨_, _, rfl⟩
theorem sp_lf (l : List UInt8) : sp (10 :: l) = [] :: sp l := by rw [sp, if_pos rfl]
theorem sp_cons {b : UInt8} (h : b ≠ 10) {l r : List UInt8} {rs : List (List UInt8)} (hs : sp l = r :: rs) : sp (b :: l) = (b :: r) :: rs := by
  rw [sp, if_neg h, hs]
/-- All but a last one that is empty. -/
def dl : List (List UInt8) → List (List UInt8)
  | [] => []
  | r :: rs => if rs.isEmpty then (if r.isEmpty then [] else [r]) else r :: dl rs
theorem dl_more (r : List UInt8) {rs : List (List UInt8)} (h : rs ≠ []) : dl (r :: rs) = r :: dl rs := by
  rw [dl, if_neg (by simpa using h)]
theorem dl_snoc (d : List (List UInt8)) (x : List UInt8) : dl (d ++ [x]) = if x = [] then d else d ++ [x] := by
  induction d with
  | nil => cases x <;> simp [dl]
  | cons r rs ih =>
    rw [List.cons_append, dl_more r (by simp), ih]
    split <;> rfl
theorem ext_list (s : ByteArray) (b e : Nat) : (s.extract b e).data.toList = (s.data.toList.drop b).take (e - b) := by
  simp only [ByteArray.data_extract, Array.toList_extract, List.extract]
theorem bt_list (s : ByteArray) (i : Nat) (h : i < s.size) : ∃ c : UInt8, c.toNat = bt s i ∧ s.data.toList.drop i = c :: s.data.toList.drop (i + 1) := by
  have hl : i < s.data.toList.length := by simpa using h
  refine ⟨s[i], bt_get s i h, ?_⟩
  rw [List.drop_eq_getElem_cons hl]; rfl
theorem cutF_sp (s : ByteArray) : ∀ (f i b : Nat), i ≤ s.size → b ≤ i → s.size < i + f → ∀ r rs, sp (s.data.toList.drop i) = r :: rs →
    (cutF s f i b).map (fun x => x.data.toList) = ((s.data.toList.drop b).take (i - b) ++ r) :: rs := by
  intro f
  induction f with
  | zero => intro i b h1 _ h2; omega
  | succ f ih =>
    intro i b hi hb hf r rs hs
    by_cases he : i = s.size
    · rw [cutF_cut hi (.inl he), cutF_end _ _ _ _ (by omega)]
      rw [List.drop_eq_nil_of_le (by simp; omega)] at hs
      obtain ⟨rfl, rfl⟩ := List.cons.inj (hs.symm.trans (show sp [] = [[]] from rfl))
      simp only [List.map_cons, List.map_nil, ext_list, List.append_nil]
    · obtain ⟨c, hc, hd⟩ := bt_list s i (by omega)
      obtain ⟨r', rs', hs'⟩ := sp_some (s.data.toList.drop (i + 1))
      rw [hd] at hs
      by_cases h10 : bt s i = 10
      · have : c = 10 := UInt8.toNat_inj.1 (by rw [hc, h10]; rfl)
        subst this
        rw [sp_lf, hs'] at hs
        obtain ⟨rfl, rfl⟩ := List.cons.inj hs
        rw [cutF_cut hi (.inr h10), List.map_cons, ih (i + 1) (i + 1) (by omega) (by omega) (by omega) r' rs' hs', ext_list]
        simp
      · have hne : c ≠ 10 := fun e => h10 (by rw [← hc, e]; rfl)
        rw [sp_cons hne hs'] at hs
        obtain ⟨rfl, rfl⟩ := List.cons.inj hs
        rw [cutF_on (by omega) h10, ih (i + 1) b (by omega) (by omega) (by omega) r' rs' hs']
        have e1 : (s.data.toList.drop b).take (i + 1 - b) = (s.data.toList.drop b).take (i - b) ++ [c] := by
          rw [show i + 1 - b = i - b + 1 by omega, List.take_add_one, List.getElem?_drop, show b + (i - b) = i by omega]
          have := congrArg (·[0]?) hd
          simp only [List.getElem?_drop, Nat.add_zero, List.getElem?_cons_zero] at this
          rw [this]; rfl
        rw [e1]; simp
theorem cutB_sp (s : ByteArray) : (cutB s).map (fun x => x.data.toList) = sp s.data.toList := by
  obtain ⟨r, rs, h⟩ := sp_some s.data.toList
  have := cutF_sp s (s.size + 1) 0 0 (by omega) (by omega) (by omega) r rs (by simpa using h)
  rw [cutB, this, h]; simp
theorem row_cons {b : UInt8} (h : b ≠ 10) (l : List UInt8) : row (b :: l) = b :: row l := by simp [row, h]
theorem row_lf (l : List UInt8) : row (10 :: l) = [] := by simp [row]
theorem sp_row (l : List UInt8) : (row l = l ∧ sp l = [l]) ∨ ((row l).length < l.length ∧ sp l = row l :: sp (l.drop ((row l).length + 1))) := by
  induction l with
  | nil => exact .inl ⟨rfl, rfl⟩
  | cons b l ih =>
    by_cases h : b = 10
    · subst h
      right
      rw [row_lf, sp_lf]
      exact ⟨by simp, by simp⟩
    · rw [row_cons h]
      rcases ih with ⟨h1, h2⟩ | ⟨h1, h2⟩
      · left
        exact ⟨by rw [h1], sp_cons h h2⟩
      · right
        refine ⟨by simp; omega, ?_⟩
        rw [sp_cons h h2]; simp
/-- What stands on a line, of the whole. -/
def rowOf (L : List UInt8) (x : Nat × Nat × List UInt8) : List UInt8 := (L.drop x.1).take (x.2.1 + x.2.2.length)
theorem lns_sp (L : List UInt8) : ∀ (f p : Nat), L.length < p + f → (lns f (L.drop p) p).map (rowOf L) = dl (sp (L.drop p)) := by
  intro f
  induction f with
  | zero => intro p h; rw [List.drop_eq_nil_of_le (by omega)]; rfl
  | succ f ih =>
    intro p h
    by_cases he : (L.drop p).isEmpty
    · have : L.drop p = [] := by simpa using he
      rw [lns, if_pos he, this]; rfl
    · rw [lns, if_neg he, List.map_cons]
      have hb := beh_le (row (L.drop p))
      have hr : rowOf L (p, (row (L.drop p)).length - (beh (row (L.drop p))).length, beh (row (L.drop p))) = row (L.drop p) := by
        unfold rowOf
        simp only
        rw [show (row (L.drop p)).length - (beh (row (L.drop p))).length + (beh (row (L.drop p))).length = (row (L.drop p)).length by omega]
        exact (row_take _).symm
      rw [hr]
      have hi := ih (p + (row (L.drop p)).length + 1) (by omega)
      rw [List.drop_drop, show p + ((row (L.drop p)).length + 1) = p + (row (L.drop p)).length + 1 by omega, hi]
      rcases sp_row (L.drop p) with ⟨h1, h2⟩ | ⟨h1, h2⟩
      · have e : L.drop (p + (row (L.drop p)).length + 1) = [] := List.drop_eq_nil_of_le (by rw [h1]; simp; omega)
        rw [e, h2, h1]
        generalize L.drop p = M at he
        show M :: [] = dl [M]
        cases M with
        | nil => exact absurd rfl he
        | cons c M => simp [dl]
      · rw [h2, dl_more _ (by obtain ⟨r, rs, e⟩ := sp_some ((L.drop p).drop ((row (L.drop p)).length + 1)); rw [e]; simp)]
        rw [List.drop_drop, show p + ((row (L.drop p)).length + 1) = p + (row (L.drop p)).length + 1 by omega]
theorem lns_rows (L : List UInt8) : (lns (L.length + 1) L 0).map (rowOf L) = dl (sp L) := by
  have := lns_sp L (L.length + 1) 0 (by omega)
  simpa using this
/-- A line, written by n. -/
def preL (n : Nat) (r : List UInt8) : List UInt8 := if r.isEmpty then [] else blk n ++ r
/-- A text's lines, written by n. -/
def wrL (n : Nat) (l : List UInt8) : List (List UInt8) := (dl (sp l)).map (preL n)
/-- The header's kind: by what the text ends. -/
def hdL (l : List UInt8) : List UInt8 := if l.getLast? = some 10 then (if l.dropLast.getLast? = some 10 then [124, 43] else [124]) else [124, 45]
end Go.Proofs.YtnnnanemefcmdaaGreatDoor
namespace Go.Proofs.YtnnnanemefcmdaaGreatDoor

/-- No sign, or a line feed, of what UTF-8 can have. -/
def hidP (c : Nat) : Bool := decide (c < 32 ∨ 127 ≤ c ∧ c ≤ 159 ∨ c = 65279 ∨ c = 65534 ∨ c = 65535)
/-- May the character at i be shown? -/
def shAt (s : ByteArray) (i : Nat) : Bool := goodAt s i && !decide ((chr s i).1 = 10)
def shf (s : ByteArray) : Nat → Nat → Bool
  | 0, _ => true
  | f + 1, i => if i < s.size then (if shAt s i then shf s f (i + wd s i) else false) else true
def shownB (s : ByteArray) : Bool := shf s s.size 0

theorem chr_sur (s : ByteArray) (i : Nat) : (chr s i).1 < 55296 ∨ 57343 < (chr s i).1 ∧ (chr s i).1 ≤ 1114111 := by
  have g0 := bt_lt s i; have g1 := bt_lt s (i + 1); have g2 := bt_lt s (i + 2); have g3 := bt_lt s (i + 3)
  by_cases a1 : bt s i < 128
  · rw [chr_a a1]; simp; omega
  by_cases a2 : bt s i < 194
  · rw [chr_b (by omega) a2]; simp
  by_cases a3 : 245 ≤ bt s i
  · rw [chr_f a3]; simp
  by_cases a4 : bt s i < 224
  · by_cases b : s.size ≤ i + 1 ∨ bt s (i + 1) < 128 ∨ 192 ≤ bt s (i + 1)
    · rw [chr_c_no (by omega) a4 b]; simp
    · rw [chr_c (by omega) a4 (by omega) (by omega) (by omega)]; simp; omega
  by_cases a5 : bt s i < 240
  · by_cases b : s.size ≤ i + 2 ∨ bt s (i + 1) < 128 ∨ 192 ≤ bt s (i + 1) ∨ bt s (i + 2) < 128 ∨ 192 ≤ bt s (i + 2)
    · rw [chr_d_no (by omega) a5 b]; simp
    · obtain ⟨c, hcc⟩ : ∃ c, c + 224 * 4096 + 128 * 64 + 128 = bt s i * 4096 + bt s (i + 1) * 64 + bt s (i + 2) := ⟨bt s i * 4096 + bt s (i + 1) * 64 + bt s (i + 2) - (224 * 4096 + 128 * 64 + 128), by omega⟩
      rw [chr_d (by omega) a5 (by omega) (by omega) (by omega) (by omega) (by omega) c hcc]
      split
      · simp; omega
      · simp
  by_cases b : s.size ≤ i + 3 ∨ bt s (i + 1) < 128 ∨ 192 ≤ bt s (i + 1) ∨ bt s (i + 2) < 128 ∨ 192 ≤ bt s (i + 2) ∨ bt s (i + 3) < 128 ∨ 192 ≤ bt s (i + 3)
  · rw [chr_e_no (by omega) (by omega) b]; simp
  · obtain ⟨c, hcc⟩ : ∃ c, c + 240 * 262144 + 128 * 4096 + 128 * 64 + 128 = bt s i * 262144 + bt s (i + 1) * 4096 + bt s (i + 2) * 64 + bt s (i + 3) := ⟨bt s i * 262144 + bt s (i + 1) * 4096 + bt s (i + 2) * 64 + bt s (i + 3) - (240 * 262144 + 128 * 4096 + 128 * 64 + 128), by omega⟩
    rw [chr_e (by omega) (by omega) (by omega) (by omega) (by omega) (by omega) (by omega) (by omega) (by omega) c hcc]
    split
    · simp; omega
    · simp
theorem hid_sign (c : Nat) (h : c < 55296 ∨ 57343 < c ∧ c ≤ 1114111) : (signB c && !decide (c = 10)) = !hidP c := by
  rw [Bool.eq_iff_iff]; simp [signB, hidP]; omega
/-- What the program's two calls find is what the document's loop finds. -/
theorem shf_eq (s : ByteArray) : ∀ (f i : Nat), s.size ≤ i + f → shf s f i = (Lib.validGoD f (s.data.toList.drop i) && !decide (0 ≤ Lib.idxFuncFrom hidP true s f i))
  | 0, i, _ => by simp [shf, Lib.validGoD, Lib.idxFuncFrom]
  | f + 1, i, hf => by
    by_cases hlt : i < s.size
    · have hne : s.data.toList.drop i ≠ [] := by
        intro e
        have := congrArg List.length e
        simp at this; omega
      have hd := Lib.decodeL_drop s i
      have hw := wd_pos s i
      unfold wd at hw
      rw [shf, if_pos hlt, Lib.validGoD, if_neg hne, hd, Lib.idxFuncFrom, if_pos hlt]
      by_cases e : Utf8.decode s i = (65533, 1)
      · have hg : shAt s i = false := by simp [shAt, goodAt, chr, e]
        rw [if_neg (by simp [hg]), if_pos (by rw [e]; exact ⟨rfl, rfl⟩)]; simp
      · have hc : chr s i = Utf8.decode s i := by unfold chr; rw [if_neg e]
        have hs : shAt s i = !hidP (Utf8.decode s i).1 := by
          have := chr_sur s i
          rw [hc] at this
          rw [← hid_sign _ this]
          unfold shAt goodAt
          rw [hc, decide_eq_true (show (Utf8.decode s i).2 ≠ 0 by omega)]; simp
        rw [if_neg (show ¬ ((Utf8.decode s i).1 = 65533 ∧ (Utf8.decode s i).2 = 1) from fun h => e (Prod.ext h.1 h.2)), hs]
        cases hh : hidP (Utf8.decode s i).1 with
        | true => simp
        | false =>
          have ih := shf_eq s f (i + wd s i) (by unfold wd; omega)
          unfold wd at ih ⊢
          rw [List.drop_drop]
          simp [ih]
    · have he : s.data.toList.drop i = [] := List.drop_eq_nil_of_le (by simp; omega)
      rw [shf, if_neg hlt, he, Lib.validGoD, if_pos rfl, Lib.idxFuncFrom, if_neg hlt]; simp
theorem shown_eq (s : ByteArray) : shownB s = (Lib.validD s.data.toList && !decide (0 ≤ Lib.idxFunc hidP true s)) := by
  have := shf_eq s s.size 0 (by omega)
  exact this
theorem shf_end (s : ByteArray) (f i : Nat) (h : s.size ≤ i) : shf s f i = true := by
  cases f with
  | zero => rfl
  | succ f => rw [shf, if_neg (by omega)]
theorem shf_good (s : ByteArray) (f i : Nat) (h : i < s.size) (hg : shAt s i = true) : shf s (f + 1) i = shf s f (i + wd s i) := by rw [shf, if_pos h, if_pos hg]
theorem shf_bad (s : ByteArray) (f i : Nat) (h : i < s.size) (hg : shAt s i = false) : shf s (f + 1) i = false := by rw [shf, if_pos h, if_neg (by simp [hg])]
end Go.Proofs.YtnnnanemefcmdaaGreatDoor
namespace Go.Proofs.YtnnnanemefcmdaaGreatDoor

/-- May what decodes to a pair be shown? -/
def shP (d : Nat × Nat) : Bool := (decide ((if d = (65533, 1) then (0, 0) else d : Nat × Nat).2 ≠ 0) && signB (if d = (65533, 1) then (0, 0) else d : Nat × Nat).1) && !decide ((if d = (65533, 1) then (0, 0) else d : Nat × Nat).1 = 10)
theorem shAt_P (s : ByteArray) (i : Nat) : shAt s i = shP (Utf8.decode s i) := rfl
def shL : Nat → List UInt8 → Bool
  | 0, _ => true
  | f + 1, l => if l.isEmpty then true else if shP (Lib.decodeL l) then shL f (l.drop (Lib.decodeL l).2) else false
theorem shf_shL (s : ByteArray) : ∀ (f i : Nat), shf s f i = shL f (s.data.toList.drop i)
  | 0, _ => rfl
  | f + 1, i => by
    rw [shf, shL]
    by_cases hlt : i < s.size
    · have hne : ¬ (s.data.toList.drop i).isEmpty = true := by
        intro e
        have := congrArg List.length (List.isEmpty_iff.1 e)
        simp at this; omega
      rw [if_pos hlt, if_neg hne, shAt_P, Lib.decodeL_drop s i, shf_shL s f, List.drop_drop]; rfl
    · have he : (s.data.toList.drop i).isEmpty = true := by
        rw [List.drop_eq_nil_of_le (by simp; omega)]; rfl
      rw [if_neg hlt, if_pos he]
theorem shL_fuel : ∀ (f g : Nat) (l : List UInt8), l.length ≤ f → l.length ≤ g → shL f l = shL g l
  | 0, g, l, hf, _ => by
    have : l = [] := List.eq_nil_of_length_eq_zero (by omega)
    subst this
    cases g <;> simp [shL]
  | f + 1, 0, l, _, hg => by
    have : l = [] := List.eq_nil_of_length_eq_zero (by omega)
    subst this
    simp [shL]
  | f + 1, g + 1, l, hf, hg => by
    have hw := Lib.decodeL_width l
    rw [shL, shL, shL_fuel f g _ (by simp; omega) (by simp; omega)]
theorem shL_blank (f : Nat) (l : List UInt8) : shL (f + 1) (32 :: l) = shL f l := by
  rw [shL, Lib.decodeL_ascii 32 l (by decide), if_neg (by simp), if_pos (by decide)]; rfl
theorem shownB_L (l : List UInt8) : shownB ⟨l.toArray⟩ = shL l.length l := by
  unfold shownB
  rw [shf_shL]; rfl
theorem shown_beh (l : List UInt8) : shownB ⟨(beh l).toArray⟩ = shownB ⟨l.toArray⟩ := by
  induction l with
  | nil => rfl
  | cons b l ih =>
    by_cases h : b = 32
    · subst h
      have e : beh (32 :: l) = beh l := by simp [beh]
      rw [e, ih, shownB_L, shownB_L]
      exact (shL_blank l.length l).symm
    · have e : beh (b :: l) = b :: l := by simp [beh, h]
      rw [e]
end Go.Proofs.YtnnnanemefcmdaaGreatDoor
namespace Go.Proofs.YtnnnanemefcmdaaGreatDoor

theorem suf1 (s : ByteArray) (c : UInt8) : Lib.hasSuffix s.data.toList [c] = decide (0 < s.size ∧ bt s (s.size - 1) = c.toNat) := by
  have hz : s.size = s.data.toList.length := by simp
  rw [Bool.eq_iff_iff, decide_eq_true_iff]
  unfold Lib.hasSuffix
  rw [List.isSuffixOf_iff_suffix]
  constructor
  · rintro ⟨t, ht⟩
    have hl : s.size = t.length + 1 := by rw [hz, ← ht]; simp
    obtain ⟨d, h1, h2⟩ := bt_list s t.length (by omega)
    have h3 : s.data.toList.drop t.length = [c] := by rw [← ht]; simp
    rw [h2] at h3
    obtain ⟨rfl, _⟩ := List.cons.inj h3
    refine ⟨by omega, ?_⟩
    rw [show s.size - 1 = t.length by omega, h1]
  · rintro ⟨h0, h1⟩
    obtain ⟨d, h2, h3⟩ := bt_list s (s.size - 1) (by omega)
    have : d = c := UInt8.toNat_inj.1 (by rw [h2, h1])
    subst this
    rw [show s.size - 1 + 1 = s.size by omega, show s.data.toList.drop s.size = [] from List.drop_eq_nil_of_le (by omega)] at h3
    rw [← h3]; exact List.drop_suffix _ _
theorem suf2 (s : ByteArray) (c d : UInt8) : Lib.hasSuffix s.data.toList [c, d] = decide (1 < s.size ∧ bt s (s.size - 2) = c.toNat ∧ bt s (s.size - 1) = d.toNat) := by
  have hz : s.size = s.data.toList.length := by simp
  rw [Bool.eq_iff_iff, decide_eq_true_iff]
  unfold Lib.hasSuffix
  rw [List.isSuffixOf_iff_suffix]
  constructor
  · rintro ⟨t, ht⟩
    have hl : s.size = t.length + 2 := by rw [hz, ← ht]; simp
    obtain ⟨x, h1, h2⟩ := bt_list s t.length (by omega)
    obtain ⟨y, h1', h2'⟩ := bt_list s (t.length + 1) (by omega)
    have h3 : s.data.toList.drop t.length = [c, d] := by rw [← ht]; simp
    rw [h2, h2'] at h3
    obtain ⟨rfl, h4⟩ := List.cons.inj h3
    obtain ⟨rfl, _⟩ := List.cons.inj h4
    refine ⟨by omega, ?_, ?_⟩
    · rw [show s.size - 2 = t.length by omega, h1]
    · rw [show s.size - 1 = t.length + 1 by omega, h1']
  · rintro ⟨h0, h1, h2⟩
    obtain ⟨x, a1, a2⟩ := bt_list s (s.size - 2) (by omega)
    obtain ⟨y, b1, b2⟩ := bt_list s (s.size - 1) (by omega)
    have e1 : x = c := UInt8.toNat_inj.1 (by rw [a1, h1])
    have e2 : y = d := UInt8.toNat_inj.1 (by rw [b1, h2])
    subst e1; subst e2
    rw [show s.size - 1 + 1 = s.size by omega, show s.data.toList.drop s.size = [] from List.drop_eq_nil_of_le (by omega)] at b2
    rw [show s.size - 2 + 1 = s.size - 1 by omega, b2] at a2
    rw [← a2]; exact List.drop_suffix _ _
/-- The header's kind: by what the text ends. -/
def hdN (s : ByteArray) : List UInt8 := if s.size = 0 ∨ bt s (s.size - 1) ≠ 10 then [124, 45] else if 1 < s.size ∧ bt s (s.size - 2) = 10 then [124, 43] else [124]
theorem hdN_a {s : ByteArray} (h : Lib.hasSuffix s.data.toList [10] = false) : hdN s = [124, 45] := by
  rw [suf1] at h
  have h := of_decide_eq_false h
  unfold hdN; rw [if_pos]
  by_cases e : s.size = 0
  · exact .inl e
  · exact .inr fun h2 => h ⟨by omega, h2⟩
theorem hdN_b {s : ByteArray} (h : Lib.hasSuffix s.data.toList [10] = true) (h2 : Lib.hasSuffix s.data.toList [10, 10] = true) : hdN s = [124, 43] := by
  rw [suf1] at h
  rw [suf2] at h2
  have h := of_decide_eq_true h
  have h2 := of_decide_eq_true h2
  unfold hdN; rw [if_neg (fun h' => h'.elim (fun e => by omega) (fun e => e h.2)), if_pos ⟨h2.1, h2.2.1⟩]
theorem hdN_c {s : ByteArray} (h : Lib.hasSuffix s.data.toList [10] = true) (h2 : Lib.hasSuffix s.data.toList [10, 10] = false) : hdN s = [124] := by
  rw [suf1] at h
  rw [suf2] at h2
  have h := of_decide_eq_true h
  have h2 := of_decide_eq_false h2
  unfold hdN; rw [if_neg (fun h' => h'.elim (fun e => by omega) (fun e => e h.2)), if_neg (fun h' => h2 ⟨h'.1, h'.2, h.2⟩)]
theorem mk_list (b : ByteArray) : (⟨b.data.toList.toArray⟩ : ByteArray) = b := by cases b; simp
/-- Is there a line feed? -/
theorem lf_sp (l : List UInt8) : (0 ≤ Lib.indexByte l 10 ∧ 2 ≤ (sp l).length) ∨ (¬ 0 ≤ Lib.indexByte l 10 ∧ (sp l).length < 2) := by
  rcases index_row l with ⟨h1, h2⟩ | ⟨h1, h2⟩
  · right
    rcases sp_row l with ⟨_, h4⟩ | ⟨h3, _⟩
    · rw [h1, h4]; exact ⟨by omega, by simp⟩
    · rw [h2] at h3; omega
  · left
    rcases sp_row l with ⟨h3, _⟩ | ⟨_, h4⟩
    · rw [h3] at h2; omega
    · obtain ⟨r, rs, e⟩ := sp_some (l.drop ((row l).length + 1))
      rw [h1, h4, e]; exact ⟨by omega, by simp⟩
theorem cutB_len_sp (s : ByteArray) : (cutB s).length = (sp s.data.toList).length := by rw [← cutB_sp]; simp
theorem dl_all (f : List UInt8 → Bool) (hf : f [] = true) (l : List (List UInt8)) : (dl l).all f = l.all f := by
  induction l with
  | nil => rfl
  | cons r rs ih =>
    rw [dl]
    split
    · rename_i h
      have : rs = [] := by simpa using h
      subst this
      split
      · rename_i h2
        have : r = [] := by simpa using h2
        subst this; simp [hf]
      · rfl
    · rw [List.all_cons, List.all_cons, ih]
/-- Is a line of the program's one that fits? -/
def okX (L : List UInt8) (x : Nat × Nat × List UInt8) : Bool := okL shownB ⟨(rowOf L x).toArray⟩
theorem fit_lines (s : ByteArray) (h : ¬ ((cutB s).length < 2 ∨ bt s 0 = 10 ∨ bt s 0 = 32)) : fitB shownB s = (lns (s.size + 1) s.data.toList 0).all (okX s.data.toList) := by
  unfold fitB
  rw [decide_eq_false h]
  have e1 : (cutB s).all (okL shownB) = ((cutB s).map fun x => x.data.toList).all (fun r => okL shownB ⟨r.toArray⟩) := by
    rw [List.all_map]; congr 1
  have e2 : (lns (s.size + 1) s.data.toList 0).all (okX s.data.toList) = ((lns (s.size + 1) s.data.toList 0).map (rowOf s.data.toList)).all (fun r => okL shownB ⟨r.toArray⟩) := by
    rw [List.all_map]; rfl
  have e3 := lns_rows s.data.toList
  rw [show s.data.toList.length = s.size by simp] at e3
  rw [e1, e2, e3, cutB_sp, dl_all _ (by decide)]
  rfl
theorem fit_bad (s : ByteArray) (h : (cutB s).length < 2 ∨ bt s 0 = 10 ∨ bt s 0 = 32) : fitB shownB s = false := by
  unfold fitB; rw [decide_eq_true h]; rfl
theorem okX_eq (L : List UInt8) (p k : Nat) (T r : List UInt8) (hr : rowOf L (p, k, T) = r) (hT : beh r = T) : okX L (p, k, T) = (shownB ⟨T.toArray⟩ && !Lib.hasSuffix r [32]) := by
  unfold okX okL
  rw [hr, ← hT, shown_beh]
  have := suf1 ⟨r.toArray⟩ 32
  rw [show (⟨r.toArray⟩ : ByteArray).data.toList = r from rfl] at this
  rw [this]; rfl
/-- A line's bytes, written by n. -/
def preB (n : Nat) (r : List UInt8) : ByteArray := ⟨(preL n r).toArray⟩
def wrB (n : Nat) (s : ByteArray) : List ByteArray := (dl (sp s.data.toList)).map (preB n)
theorem wrB_lines (n : Nat) (s : ByteArray) : (lns (s.size + 1) s.data.toList 0).map (fun x => preB n (rowOf s.data.toList x)) = wrB n s := by
  have e3 := lns_rows s.data.toList
  rw [show s.data.toList.length = s.size by simp] at e3
  unfold wrB
  rw [← e3, List.map_map]; rfl
theorem wrB_cut (n : Nat) (s : ByteArray) {d : List ByteArray} {x : ByteArray} (h : cutB s = d ++ [x]) :
    wrB n s = (if x.size = 0 then d else d ++ [x]).map (fun b => preB n b.data.toList) := by
  have hx : (x.data.toList = []) ↔ x.size = 0 := by
    rw [← List.length_eq_zero_iff]; simp
  unfold wrB
  rw [← cutB_sp, h, List.map_append, List.map_cons, List.map_nil, dl_snoc]
  by_cases e : x.size = 0
  · rw [if_pos e, if_pos (hx.2 e), List.map_map]; rfl
  · rw [if_neg e, if_neg (fun h => e (hx.1 h))]
    rw [show d.map (fun x => x.data.toList) ++ [x.data.toList] = (d ++ [x]).map (fun x => x.data.toList) by simp, List.map_map]; rfl
end Go.Proofs.YtnnnanemefcmdaaGreatDoor
namespace Go.Proofs.YtnnnanemefcmdaaGreatDoor
open Go.RowKit

set_option maxRecDepth 100000 in
set_option maxHeartbeats 1000000 in
theorem from_any (p k : Nat) (T : ByteArray) (w : World) (hp : p ≤ 1000000) (hk : k ≤ 1000000) :
    Calls Tryz.prog 92 #[.agg #[.int .i64 p, .int .i64 k, .string T]] w fun e w' => e = .returned (.int .i64 ((p : Int) + (k : Int))) ∧ Below w.heap.size w w' := by
  go_enter Tryz.func92, Tryz.ntmps92
  go_wp2
  go_ret
  exact ⟨rfl, (Below.refl _ _).alloc (Nat.le_refl _) _⟩

/-- A line's box in memory, and all that lay below it. -/
def LnBox (w : World) (b p k : Nat) (T : ByteArray) (w' : World) : Prop := w'.cell? ⟨b, 0, none⟩ = some (.int .i64 p) ∧ w'.cell? ⟨b, 1, none⟩ = some (.int .i64 k) ∧ w'.cell? ⟨b, 2, none⟩ = some (.string T) ∧ b < w'.heap.size ∧ Below w.heap.size w w'
theorem LnBox.keep {w : World} {b p k : Nat} {T : ByteArray} {w' w'' : World} (h : LnBox w b p k T w') (hb : Below w'.heap.size w' w'') : LnBox w b p k T w'' := by
  obtain ⟨h0, h1, h2, h3, h4⟩ := h
  have := hb.size
  refine ⟨?_, ?_, ?_, by omega, h4.trans (hb.mono h4.size)⟩
  · rw [hb.cell (p := ⟨b, 0, none⟩) h3]; exact h0
  · rw [hb.cell (p := ⟨b, 1, none⟩) h3]; exact h1
  · rw [hb.cell (p := ⟨b, 2, none⟩) h3]; exact h2
theorem LnBox.start (w : World) (p k : Nat) (T : ByteArray) : LnBox w w.heap.size p k T (w.alloc (.cells #[.int .i64 p, .int .i64 k, .string T] 89)) :=
  ⟨by simp, by simp, by simp, by simp, (Below.refl _ _).alloc (Nat.le_refl _) _⟩
theorem from_keep {w : World} {b p k : Nat} {T : ByteArray} (hp : p ≤ 1000000) (hk : k ≤ 1000000) (W : World) (hS : LnBox w b p k T W) :
    Calls Tryz.prog 92 #[.agg #[.int .i64 p, .int .i64 k, .string T]] W fun e w' => e = .returned (.int .i64 ((p : Int) + (k : Int))) ∧ LnBox w b p k T w' :=
  (from_any p k T W hp hk).mono fun _ _ ⟨h1, h2⟩ => ⟨h1, hS.keep h2⟩

set_option maxRecDepth 100000 in
set_option maxHeartbeats 4000000 in
theorem row_any (s T : ByteArray) (p k : Nat) (w : World) (hs : s.size ≤ 1000000) (hq : p + k + T.size ≤ s.size) :
    Calls Tryz.prog 57 #[.string s, .agg #[.int .i64 p, .int .i64 k, .string T]] w fun e w' => e = .returned (.string (s.extract p (p + k + T.size))) ∧ Below w.heap.size w w' := by
  have hS0 : LnBox w w.heap.size p k T (w.alloc (.cells #[.int .i64 p, .int .i64 k, .string T] 89)) := LnBox.start w _ _ _
  have x1 : IntKind.i64.wrap ((p : Int) + (k : Int) + (T.size : Int)) = (p : Int) + (k : Int) + (T.size : Int) := by rw [IntKind.wrap_i64]; omega
  have x2 : (0 : Int) ≤ (p : Int) + (k : Int) + (T.size : Int) := by omega
  have x3 : (p : Int) ≤ (p : Int) + (k : Int) + (T.size : Int) := by omega
  have x4 : (p : Int) + (k : Int) + (T.size : Int) ≤ (s.size : Int) := by omega
  have x5 : ((p : Int) + (k : Int) + (T.size : Int)).toNat = p + k + T.size := by omega
  have hp : p ≤ 1000000 := by omega
  have hk : k ≤ 1000000 := by omega
  have HS0 := Lib.hid hS0
  clear hS0 hs hq
  go_enter Tryz.func57, Tryz.ntmps57
  go_wp2_with fail
  go_region_held3 (fun w' => w'.cell? ⟨w.heap.size, 0, none⟩ = some (.int .i64 p) ∧ w'.cell? ⟨w.heap.size, 1, none⟩ = some (.int .i64 k) ∧ w'.cell? ⟨w.heap.size, 2, none⟩ = some (.string T) ∧ w.heap.size < w'.heap.size ∧ Below w.heap.size w w') (first | exact HS0.out | exact LnBox.keep (w := w) HS0.out ((Below.refl _ _).drew) | exact ‹LnBox w _ _ _ _ _› | exact LnBox.keep (w := w) (b := w.heap.size) (p := p) (k := k) (T := T) ⟨‹_›, ‹_›, ‹_›, ‹_›, ‹_›⟩ ((Below.refl _ _).drew) | go_keep)
    (first | (go_at_call 92; refine (from_keep (w := w) (b := w.heap.size) (p := p) (k := k) (T := T) hp hk _ ?_).mono ?_; (first | exact ‹LnBox w _ _ _ _ _› | exact ⟨‹_›, ‹_›, ‹_›, ‹_›, ‹_›⟩); rintro e w' ⟨rfl, hs'⟩))
  all_goals
    go_wp2
    go_ret
    first
      | exact ⟨rfl, ‹Below w.heap.size w _›⟩
      | exact ⟨rfl, hs'.2.2.2.2⟩

set_option maxRecDepth 100000 in
set_option maxHeartbeats 4000000 in
theorem header_any (s : ByteArray) (w : World) (hs : s.size ≤ 1000000) :
    Calls Tryz.prog 58 #[.string s] w fun e w' => e = .returned (.string ⟨(hdN s).toArray⟩) ∧ w = w' := by
  have c1 := Tryz.strings_HasSuffix s ⟨#[10]⟩ w (by omega)
  have c2 := Tryz.strings_HasSuffix s ⟨#[10, 10]⟩ w (by omega)
  rw [show (⟨#[10]⟩ : ByteArray).data.toList = [10] from rfl] at c1
  rw [show (⟨#[10, 10]⟩ : ByteArray).data.toList = [10, 10] from rfl] at c2
  cases h1 : Lib.hasSuffix s.data.toList [10] with
  | false =>
    have HD := Lib.hid (hdN_a h1)
    rw [h1] at c1
    clear h1 c2
    go_enter Tryz.func58, Tryz.ntmps58
    go_wp2_with fail
    refine c1.mono ?_
    rintro e w' ⟨rfl, rfl⟩
    go_wp2
    go_ret
    exact ⟨by rw [HD.out]; rfl, rfl⟩
  | true =>
    rw [h1] at c1
    cases h2 : Lib.hasSuffix s.data.toList [10, 10] with
    | true =>
      have HD := Lib.hid (hdN_b h1 h2)
      rw [h2] at c2
      clear h1 h2
      go_enter Tryz.func58, Tryz.ntmps58
      go_wp2_with fail
      refine c1.mono ?_
      rintro e w' ⟨rfl, rfl⟩
      go_wp2_with fail
      refine c2.mono ?_
      rintro e w' ⟨rfl, rfl⟩
      go_wp2
      go_ret
      exact ⟨by rw [HD.out]; rfl, rfl⟩
    | false =>
      have HD := Lib.hid (hdN_c h1 h2)
      rw [h2] at c2
      clear h1 h2
      go_enter Tryz.func58, Tryz.ntmps58
      go_wp2_with fail
      refine c1.mono ?_
      rintro e w' ⟨rfl, rfl⟩
      go_wp2_with fail
      refine c2.mono ?_
      rintro e w' ⟨rfl, rfl⟩
      go_wp2
      go_ret
      exact ⟨by rw [HD.out]; rfl, rfl⟩
end Go.Proofs.YtnnnanemefcmdaaGreatDoor
namespace Go.Proofs.YtnnnanemefcmdaaGreatDoor
open Go.RowKit

/-- The indentation that a text is written by. -/
def ind (i : Int) : Nat := if i < 0 then 0 else if 1000 < i then 1000 else i.toNat
theorem ind_le (i : Int) : ind i ≤ 1000 := by
  unfold ind
  split
  · omega
  · split <;> omega
theorem ind_lo {i : Int} (h : i < 0) : ind i = 0 := by unfold ind; rw [if_pos h]
theorem ind_hi {i : Int} (h : 1000 < i) : ind i = 1000 := by unfold ind; rw [if_neg (by omega), if_pos h]
theorem ind_mid {i : Int} (h : 0 ≤ i) (h2 : i ≤ 1000) : ((ind i : Nat) : Int) = i := by unfold ind; rw [if_neg (by omega), if_neg (by omega)]; omega

theorem own_mono {w : World} {B B' e size n : Nat} {v : Value} {xs : List Value} (h : w.ownsRow B e size v n xs) (hB : B' ≤ B) : w.ownsRow B' e size v n xs := by
  refine ⟨h.1, ?_⟩
  rcases h.2 with hn | ⟨g, cap, cur, rfl, hg, rest⟩
  · exact .inl hn
  · exact .inr ⟨g, cap, cur, rfl, Nat.le_trans hB hg, rest⟩
/-- The row of lines as it stands, and the line that is read. -/
def RwW (w1 : World) (g k : Nat) (b : ByteArray) (v : Value) (xs : List Value) (w' : World) : Prop :=
  w'.cell? ⟨g, k, none⟩ = some (.string b) ∧ w'.ownsRow w1.heap.size 9 1 v k xs ∧ Below w1.heap.size w1 w'
theorem RwW.drew {w1 : World} {g k : Nat} {b : ByteArray} {v : Value} {xs : List Value} {w' : World} (h : RwW w1 g k b v xs w') : RwW w1 g k b v xs w'.drew := ⟨h.1, h.2.1, h.2.2.drew⟩
theorem RwW.keep {w1 : World} {g k : Nat} {b : ByteArray} {v : Value} {xs : List Value} {W w' : World} (h : RwW w1 g k b v xs W) (hg : g < w1.heap.size) (hb : Below W.heap.size W w') : RwW w1 g k b v xs w' := by
  have := h.2.2.size
  exact ⟨(hb.cell (p := ⟨g, k, none⟩) (show g < _ by omega)).trans h.1, own_below h.2.1 hb, h.2.2.trans (hb.mono h.2.2.size)⟩
theorem rwc_alloc {w1 : World} {g k : Nat} {b : ByteArray} {W : World} (hg : g < w1.heap.size) (h : W.cell? ⟨g, k, none⟩ = some (.string b) ∧ Below w1.heap.size w1 W) (o : Obj) : (W.alloc o).cell? ⟨g, k, none⟩ = some (.string b) ∧ Below w1.heap.size w1 (W.alloc o) := by
  have := h.2.size
  exact ⟨(((Below.refl _ _).alloc (Nat.le_refl _) o).cell (p := ⟨g, k, none⟩) (show g < _ by omega)).trans h.1, h.2.alloc h.2.size o⟩
end Go.Proofs.YtnnnanemefcmdaaGreatDoor
namespace Go.Proofs.YtnnnanemefcmdaaGreatDoor
open Go.RowKit

theorem rep_blk (n : Nat) : Lib.repeatL [32] n = blk n := by
  induction n with
  | zero => rfl
  | succ n ih =>
    rw [Lib.repeatL, ih]; simp [blk, List.replicate_succ]
theorem blanks_rep (n : Nat) (w : World) (hn : n ≤ 1000) :
    Calls Tryz.prog 56 #[.string ⟨#[32]⟩, .int .i64 n] w fun e w' => e = .returned (.string ⟨(blk n).toArray⟩) ∧ Below w.heap.size w w' := by
  have h := Tryz.strings_Repeat ⟨#[32]⟩ n w (by omega) (by rw [show (⟨#[32]⟩ : ByteArray).size = 1 from rfl]; omega)
  rw [show (⟨#[32]⟩ : ByteArray).data.toList = [32] from rfl, rep_blk] at h
  exact h
/-- Of the lines of a text: each lies within it. -/
theorem lns_in (L : List UInt8) : ∀ (f p : Nat), ∀ x ∈ lns f (L.drop p) p, x.1 + x.2.1 + x.2.2.length ≤ L.length := by
  intro f
  induction f with
  | zero => intro p x hx; cases hx
  | succ f ih =>
    intro p x hx
    rw [lns] at hx
    split at hx
    · cases hx
    · rcases List.mem_cons.1 hx with rfl | hx
      · have h1 := row_le (L.drop p)
        have h2 := beh_le (row (L.drop p))
        rename_i h0
        have : 0 < (L.drop p).length := by
          rcases Nat.eq_zero_or_pos (L.drop p).length with h | h
          · exact absurd (List.isEmpty_iff_length_eq_zero.2 h) h0
          · exact h
        simp only [List.length_drop] at h1 this ⊢
        omega
      · rw [List.drop_drop] at hx
        have := ih (p + (row (L.drop p)).length + 1) x (by rw [show p + (row (L.drop p)).length + 1 = p + ((row (L.drop p)).length + 1) by omega]; exact hx)
        exact this
theorem lns_len (L : List UInt8) : ∀ (f p : Nat), (lns f (L.drop p) p).length ≤ L.length - p := by
  intro f
  induction f with
  | zero => intro p; simp [lns]
  | succ f ih =>
    intro p
    rw [lns]
    split
    · simp
    · rename_i h0
      have : 0 < (L.drop p).length := by
        rcases Nat.eq_zero_or_pos (L.drop p).length with h | h
        · exact absurd (List.isEmpty_iff_length_eq_zero.2 h) h0
        · exact h
      have := ih (p + (row (L.drop p)).length + 1)
      rw [List.drop_drop, show p + ((row (L.drop p)).length + 1) = p + (row (L.drop p)).length + 1 by omega, List.length_cons]
      simp only [List.length_drop] at *
      omega
theorem flat_at (A : List (Nat × Nat × List UInt8)) (m : Nat) (x : Nat × Nat × List UInt8) (h : A[m]? = some x) (j : Nat) (hj : j < 3) : (A.flatMap lnv)[m * 3 + j]? = (lnv x)[j]? := by
  induction A generalizing m with
  | nil => simp at h
  | cons y A ih =>
    cases m with
    | zero =>
      simp only [List.getElem?_cons_zero, Option.some.injEq] at h
      subst h
      rw [List.flatMap_cons, List.getElem?_append_left (by simp [lnv]; omega)]
      congr 1
      try omega
    | succ m =>
      rw [List.flatMap_cons, List.getElem?_append_right (by simp [lnv]; omega)]
      have := ih m (by simpa using h)
      rw [← this]
      congr 1
      simp [lnv]
      try omega
/-- A line's cells. -/
def LnC (w : World) (g : Nat) (A : List (Nat × Nat × List UInt8)) : Prop := ∀ m x, A[m]? = some x → w.cell? ⟨g, m * 3, none⟩ = some (.int .i64 x.1) ∧ w.cell? ⟨g, m * 3 + 1, none⟩ = some (.int .i64 x.2.1) ∧ w.cell? ⟨g, m * 3 + 2, none⟩ = some (.string ⟨x.2.2.toArray⟩)
theorem LnC.keep {w w' : World} {g : Nat} {A : List (Nat × Nat × List UInt8)} (h : LnC w g A) (hg : g < w.heap.size) (hb : Below w.heap.size w w') : LnC w' g A := by
  intro m x hx
  obtain ⟨h0, h1, h2⟩ := h m x hx
  exact ⟨(hb.cell (p := ⟨g, _, none⟩) hg).trans h0, (hb.cell (p := ⟨g, _, none⟩) hg).trans h1, (hb.cell (p := ⟨g, _, none⟩) hg).trans h2⟩
/-- The lines that Lines gives: where they lie. -/
theorem lines_at {w : World} {base : Nat} {v : Value} {A : List (Nat × Nat × List UInt8)} (h : w.ownsRow base 89 3 v A.length (A.flatMap lnv)) :
    ∃ r g cap, v = .slice r A.length cap ∧ (0 < A.length → r = some ⟨g, 0, none⟩ ∧ base ≤ g ∧ g < w.heap.size ∧ A.length ≤ cap ∧ cap ≤ maxLen) ∧ LnC w g A := by
  rcases Nat.eq_zero_or_pos A.length with h0 | h0
  · have hA : A = [] := List.eq_nil_of_length_eq_zero h0
    rcases h.2 with ⟨rfl, _⟩ | ⟨g, cap, cur, rfl, _⟩
    · exact ⟨none, 0, 0, by rw [h0], fun h => by omega, fun m x hx => by rw [hA] at hx; simp at hx⟩
    · exact ⟨_, g, cap, rfl, fun h => by omega, fun m x hx => by rw [hA] at hx; simp at hx⟩
  · obtain ⟨g, cap, rfl, hnc, hcm, hg, hgl, hc⟩ := own_cells h h0
    refine ⟨_, g, cap, rfl, fun _ => ⟨rfl, hg, hgl, hnc, hcm⟩, fun m x hx => ?_⟩
    have f0 := hc (m * 3 + 0) _ (flat_at A m x hx 0 (by omega))
    have f1 := hc (m * 3 + 1) _ (flat_at A m x hx 1 (by omega))
    have f2 := hc (m * 3 + 2) _ (flat_at A m x hx 2 (by omega))
    exact ⟨f0, f1, f2⟩
theorem ext_rowOf (s : ByteArray) (x : Nat × Nat × List UInt8) : s.extract x.1 (x.1 + x.2.1 + x.2.2.length) = ⟨(rowOf s.data.toList x).toArray⟩ := by
  have h := ext_list s x.1 (x.1 + x.2.1 + x.2.2.length)
  rw [show x.1 + x.2.1 + x.2.2.length - x.1 = x.2.1 + x.2.2.length by omega] at h
  unfold rowOf
  rw [← h]
theorem blanks_to (n : Nat) (a : Int) (ha : a = n) (w : World) (hn : n ≤ 1000) :
    Calls Tryz.prog 56 #[.string ⟨#[32]⟩, .int .i64 a] w fun e w' => e = .returned (.string ⟨(blk n).toArray⟩) ∧ Below w.heap.size w w' := by subst ha; exact blanks_rep n w hn
theorem row_of (s T : ByteArray) (p k : Nat) (R : List UInt8) (w : World) (hs : s.size ≤ 1000000) (hq : p + k + T.size ≤ s.size) (hR : s.extract p (p + k + T.size) = ⟨R.toArray⟩) :
    Calls Tryz.prog 57 #[.string s, .agg #[.int .i64 p, .int .i64 k, .string T]] w fun e w' => e = .returned (.string ⟨R.toArray⟩) ∧ Below w.heap.size w w' := by rw [← hR]; exact row_any s T p k w hs hq
theorem cat5 (a b : List UInt8) : (⟨a.toArray⟩ : ByteArray) ++ ⟨b.toArray⟩ = ⟨(a ++ b).toArray⟩ := by
  apply ByteArray.ext; simp [ByteArray.data_append]

set_option maxRecDepth 100000 in
set_option maxHeartbeats 8000000 in
theorem write_any (s : ByteArray) (i : Int) (w : World) (hs : s.size ≤ 10000) :
    Calls Tryz.prog 23 #[.string s, .int .i64 i] w fun e w' => ∃ v, e = .returned (.tuple #[.string ⟨(hdN s).toArray⟩, v]) ∧ w'.ownsRow w.heap.size 9 1 v (wrB (ind i) s).length (sv (wrB (ind i) s)) ∧ Below w.heap.size w w' := by
  obtain ⟨n, hn⟩ : ∃ n, ind i = n := ⟨_, rfl⟩
  have hn1 : n ≤ 1000 := hn ▸ ind_le i
  rw [hn]
  have HM := Lib.hid (show min (max i 0) 1000 = (n : Nat) by rw [← hn]; unfold ind; split <;> (try split) <;> omega)
  have HW := Lib.hid (wrB_lines n s)
  have HIN := Lib.hid (show ∀ x ∈ lns (s.size + 1) s.data.toList 0, x.1 + x.2.1 + x.2.2.length ≤ s.size from fun x hx => by
    have := lns_in s.data.toList (s.size + 1) 0 x (by simpa using hx)
    simpa using this)
  have hAl : (lns (s.size + 1) s.data.toList 0).length ≤ s.size := by
    have := lns_len s.data.toList (s.size + 1) 0
    simpa using this
  clear hn
  go_enter Tryz.func23, Tryz.ntmps23
  go_wp2_with fail
  refine (blanks_to n _ HM.out w hn1).mono ?_
  rintro e w0 ⟨rfl, hb0⟩
  have hw0 := hb0.size
  go_wp2_with fail
  refine (lines_any s _ (by omega)).mono ?_
  rintro e w1 ⟨v, rfl, hown, hb1⟩
  obtain ⟨A, hA⟩ : ∃ A, lns (s.size + 1) s.data.toList 0 = A := ⟨_, rfl⟩
  rw [hA] at hown HW HIN hAl
  clear hA
  obtain ⟨r, g, cap, rfl, hg, hc⟩ := lines_at hown
  have HC := Lib.hid hc
  have hg1 : 0 < A.length → g < w1.heap.size := fun h => (hg h).2.2.1
  have hr1 : 0 < A.length → r = some ⟨g, 0, none⟩ := fun h => (hg h).1
  have hcp : 0 < A.length → A.length ≤ cap ∧ cap ≤ maxLen := fun h => ⟨(hg h).2.2.2.1, (hg h).2.2.2.2⟩
  have HG1 := Lib.hid hg1
  have HR1 := Lib.hid hr1
  have HCP := Lib.hid hcp
  obtain ⟨P, hP⟩ : ∃ P, A.map (fun x => preB n (rowOf s.data.toList x)) = P := ⟨_, rfl⟩
  have hPl : P.length = A.length := by rw [← hP]; simp
  have HPW := Lib.hid (show wrB n s = P by rw [← HW.out, hP])
  have HPS := Lib.hid (show ∀ k x, A[k]? = some x → P.take (k + 1) = P.take k ++ [preB n (rowOf s.data.toList x)] from fun k b h => by
    rw [List.take_add_one, ← hP, List.getElem?_map, h]; rfl)
  clear hP hown hc hg hg1 hr1 hcp HW HM
  obtain ⟨i0, hi, hz0, hz1, hz2⟩ := info_parts infoS
  have hmx : (1000000 : Nat) < maxLen := by decide
  have hB1 := hb0.trans (hb1.mono hw0)
  have hw1 := hB1.size
  clear hb0 hb1 hw0
  go_wp2_with fail
  go_loopw [7, 18] (fun v j wr => ∃ k : Nat, j = .int .i64 k ∧ k ≤ A.length ∧ wr.ownsRow w1.heap.size 9 1 v k (sv (P.take k)) ∧ Below w1.heap.size w1 wr) (fun _ j _ => A.length - (intOf j).toNat)
  case atStart => exact ⟨0, rfl, by omega, World.ownsRow_nil _ _ _ _, Below.refl _ _⟩
  case round =>
    obtain ⟨k, rfl, hk, hown, hb2⟩ := hrel
    have hz := hb2.size
    by_cases hlt : k < A.length
    · obtain ⟨⟨p, q, T⟩, hx⟩ : ∃ x, A[k]? = some x := ⟨_, List.getElem?_eq_getElem hlt⟩
      have hgl := HG1.out (by omega)
      obtain ⟨hnc, hcm⟩ := HCP.out (by omega)
      obtain ⟨q0, q1, q2⟩ := (HC.out.keep hgl hb2) k _ hx
      simp only at q0 q1 q2
      have hin := HIN.out _ (List.mem_of_getElem? hx)
      simp only at hin
      have hRl : (rowOf s.data.toList (p, q, T)).length ≤ s.size := by
        have : (rowOf s.data.toList (p, q, T)).length ≤ q + T.length := by unfold rowOf; exact List.length_take_le _ _
        omega
      have HP := Lib.hid (HPS.out k _ hx)
      have hR := ext_rowOf s (p, q, T)
      simp only at hR
      obtain ⟨R, hRR⟩ : ∃ R, rowOf s.data.toList (p, q, T) = R := ⟨_, rfl⟩
      rw [hRR] at hR HP hRl
      have HRX := Lib.hid (show s.extract p (p + q + (⟨T.toArray⟩ : ByteArray).size) = ⟨R.toArray⟩ from hR)
      have HIX := Lib.hid (show p + q + (⟨T.toArray⟩ : ByteArray).size ≤ s.size from hin)
      obtain rfl := HR1.out (by omega)
      unfold maxLen at hcm
      have hB3 := hb2.alloc hz (.cells #[.int .i64 p, .int .i64 q, .string ⟨T.toArray⟩] 89)
      have hown3 := hown.alloc (.cells #[.int .i64 p, .int .i64 q, .string ⟨T.toArray⟩] 89)
      clear hx hR hRR hin hown hb2
      go_wp2_with fail
      refine (row_of s ⟨T.toArray⟩ p q R _ (by omega) HIX.out HRX.out).mono ?_
      rintro e w3 ⟨rfl, hb3⟩
      have hown4 := own_below hown3 hb3
      have hB4 := hB3.trans (hb3.mono hB3.size)
      have hz4 := hB4.size
      clear hown3 hB3 hb3 q0 q1 q2
      cases R with
      | nil =>
        have HP2 := Lib.hid (show P.take (k + 1) = P.take k ++ [⟨#[]⟩] from HP.out)
        clear HP
        go_wp2_with (at_builtin; refine wpList_append_own _ rfl _ _ 49 rfl w1.heap.size 9 i0 (.string ⟨#[]⟩) 1 16 Tryz.underlying49 hi hz0 hz1 hz2 rfl (by decide) _ _ _ rfl (hown4.alloc _) ⟨w3.heap.size, 0, none⟩ 1 1 (sv [⟨#[]⟩]) rfl rfl (fun j u hj => cells_new w3 _ _ j u hj) (fun y hy => by simp [sv] at hy; subst hy; rfl) (by omega) (by omega) (by simp; omega) ?_)
        intro v1 w4 own1 g1 _
        have hb5 := below_of_grown (hB4.alloc hz4 _) g1 (by simp; omega) (hown4.alloc _)
        rw [← sv_app, ← HP2.out] at own1
        clear hown4 g1 hB4
        go_wp2
        go_roundw
        case rel => exact ⟨k + 1, by go_num, by omega, own1, hb5⟩
        case measure => simp [intOf]; omega
      | cons c R =>
        have HP2 := Lib.hid (show P.take (k + 1) = P.take k ++ [⟨(blk n ++ (c :: R)).toArray⟩] from HP.out)
        have hcat := cat5 (blk n) (c :: R)
        have hbl : ¬ 9223372036854775807 < (blk n).length + (R.length + 1) := by
          rw [blk_len]; simp only [List.length_cons] at hRl; omega
        clear HP
        go_wp2_with (at_builtin; refine wpList_append_own _ rfl _ _ 49 rfl w1.heap.size 9 i0 (.string ⟨#[]⟩) 1 16 Tryz.underlying49 hi hz0 hz1 hz2 rfl (by decide) _ _ _ rfl (hown4.alloc _) ⟨w3.heap.size, 0, none⟩ 1 1 (sv [⟨(blk n ++ (c :: R)).toArray⟩]) rfl rfl (fun j u hj => cells_new w3 _ _ j u hj) (fun y hy => by simp [sv] at hy; subst hy; rfl) (by omega) (by omega) (by simp; omega) ?_)
        intro v1 w4 own1 g1 _
        have hb5 := below_of_grown (hB4.alloc hz4 _) g1 (by simp; omega) (hown4.alloc _)
        rw [← sv_app, ← HP2.out] at own1
        clear hown4 g1 hB4 hcat hbl
        go_wp2
        go_roundw
        case rel => exact ⟨k + 1, by go_num, by omega, own1, hb5⟩
        case measure => simp [intOf]; omega
    · obtain rfl : k = A.length := by omega
      rw [List.take_of_length_le (by omega), ← hPl, ← HPW.out] at hown
      have HO := Lib.hid (own_mono hown hw1)
      have hB := hB1.trans (hb2.mono hw1)
      clear hown hb2
      go_wp2_with fail
      refine (header_any s _ (by omega)).mono ?_
      rintro e w' ⟨rfl, rfl⟩
      go_wp2
      go_ret2
      exact ⟨_, rfl, HO.out, hB⟩
end Go.Proofs.YtnnnanemefcmdaaGreatDoor
namespace Go.Proofs.YtnnnanemefcmdaaGreatDoor
open Go.RowKit

set_option maxRecDepth 100000 in
set_option maxHeartbeats 1000000 in
theorem hidden_any (c : Nat) (w : World) (hc : c ≤ 1114111) :
    Calls Tryz.prog 100 #[.int .i32 c] w fun e w' => e = .returned (.bool (hidP c)) ∧ w = w' := by
  go_enter Tryz.func100, Tryz.ntmps100
  go_wp2
  all_goals
    go_ret
    exact ⟨ret_b (by rw [Bool.eq_iff_iff]; simp [hidP]; omega), rfl⟩
theorem hidden_pred (w : World) : PredAtRunes Tryz.prog 100 #[] hidP w := by
  intro W x hx _
  exact (hidden_any x W hx).mono fun e w' ⟨h1, h2⟩ => ⟨h1, 0, by rw [← h2]; rfl⟩

set_option maxRecDepth 100000 in
set_option maxHeartbeats 1000000 in
theorem shown_any (s : ByteArray) (w : World) (hs : s.size ≤ 3000) (hT : Lib.Utf8Tabs 0 1 w) :
    Calls Tryz.prog 64 #[.string s] w fun e w' => e = .returned (.bool (shownB s)) ∧ Below w.heap.size w w' := by
  have he := shown_eq s
  have eg : ∀ args w, (callFunc 100 args).run Tryz.prog w = .ok (.enter 100 args) w := enters_of Tryz.func100 (by kernel_rfl) rfl
  cases hv : Lib.validD s.data.toList with
  | false =>
    have HE := Lib.hid (show shownB s = false by rw [he, hv]; rfl)
    have HV := Lib.hid hv
    clear he hv
    go_enter Tryz.func64, Tryz.ntmps64
    go_wp2_with fail
    refine (Tryz.utf8_ValidString s _ (by omega) hT).mono ?_
    rintro e w1 ⟨rfl, hb⟩
    rw [HV.out]
    go_wp2
    go_ret
    exact ⟨ret_b HE.out.symm, hb⟩
  | true =>
    have HE := Lib.hid (show shownB s = !decide (0 ≤ Lib.idxFunc hidP true s) by rw [he, hv]; simp)
    have HV := Lib.hid hv
    clear he hv
    go_enter Tryz.func64, Tryz.ntmps64
    go_wp2_with fail
    refine (Tryz.utf8_ValidString s _ (by omega) hT).mono ?_
    rintro e w1 ⟨rfl, hb⟩
    rw [HV.out]
    go_wp2_with fail
    refine (Tryz.strings_ContainsFunc_runes 100 #[] eg hidP s _ (hidden_pred _)).mono ?_
    rintro e w2 ⟨rfl, hb2⟩
    rw [show decide (0 ≤ Lib.idxFunc hidP true s) = !shownB s by rw [HE.out]; simp]
    go_wp2
    go_ret
    exact ⟨by simp, hb.trans (hb2.mono hb.size)⟩
end Go.Proofs.YtnnnanemefcmdaaGreatDoor
