/- The walk of internal/strconv's ParseUint at base 16, 16 bits, of one to four bytes. -/
import Derived.Test.YtnnnanemefcmdaaGreatDoorZL0a
import Derived.Test.YtnnnanemefcmdaaGreatDoorShelf
import Derived.Lib.Strings
import Derived.Lib.Walk
import Derived.Lib.ConvBytes
import Derived.Lib.AtoiErrMem
import Derived.Lib.Hide
import Derived.Laws.Strings3
import Derived.Laws.Closers25
import Derived.Laws.Closers25b
import Derived.WalkKit
import Derived.BigCall
import Derived.BigGuard
namespace Go.Proofs.YtnnnanemefcmdaaGreatDoor
open Go.RowKit

theorem low_all : ∀ c : Fin 256, 0 ≤ bits BinOp.or IntKind.u8 (c.val : Int) 32 ∧ bits BinOp.or IntKind.u8 (c.val : Int) 32 ≤ 255 ∧ ((48 ≤ c.val ∧ c.val ≤ 57) ∨ hexN c.val = if 97 ≤ bits BinOp.or IntKind.u8 (c.val : Int) 32 ∧ bits BinOp.or IntKind.u8 (c.val : Int) 32 ≤ 102 then bits BinOp.or IntKind.u8 (c.val : Int) 32 - 87 else -1) := by decide +kernel
theorem low_cases (c : Nat) (h : c < 256) (hn : ¬ (48 ≤ c ∧ c ≤ 57)) : ∃ v : Int, bits BinOp.or IntKind.u8 (c : Int) 32 = v ∧ 0 ≤ v ∧ v ≤ 255 ∧ hexN c = if 97 ≤ v ∧ v ≤ 102 then v - 87 else -1 := by
  obtain ⟨h1, h2, h3⟩ := low_all ⟨c, h⟩
  exact ⟨_, rfl, h1, h2, h3.resolve_left hn⟩

set_option maxRecDepth 100000 in
theorem lower_any (c v : Int) (w : World) (hv : bits BinOp.or IntKind.u8 c 32 = v) :
    Calls Tryz.prog 156 #[.int .u8 c] w fun e w' => e = .returned (.int .u8 v) ∧ w = w' := by
  go_enter Tryz.func156, Tryz.ntmps156
  go_wp2
  go_ret
  exact ⟨rfl, rfl⟩

/-- What ParseUint answers. -/
def prs (t : ByteArray) : Value := match numO t 0 t.size with
  | some v => .tuple #[.int .u64 v, .nilIface]
  | none => .tuple #[.int .u64 0, .iface 174 (.int .i64 2)]
theorem prs_none {t : ByteArray} {k : Nat} (h : numO t 0 (k + 1) = none) (hk : k < t.size) : prs t = .tuple #[.int .u64 0, .iface 174 (.int .i64 2)] := by
  unfold prs; rw [numO_none h (by omega)]
theorem numO_bad {t : ByteArray} {k acc : Nat} (h : numO t 0 k = some acc) (hx : hexN (bt t k) < 0) : numO t 0 (k + 1) = none := by
  simp only [numO, h, Nat.zero_add, if_pos hx]
theorem numO_next {t : ByteArray} {k acc : Nat} {d : Nat} (h : numO t 0 k = some acc) (hx : hexN (bt t k) = d) : numO t 0 (k + 1) = some (acc * 16 + d) := by
  simp only [numO, h, Nat.zero_add, hx]
  rw [if_neg (by omega)]; simp

set_option maxHeartbeats 32000000 in
set_option maxRecDepth 100000 in
theorem parse16 (t : ByteArray) (hne : 1 ≤ t.size) (h4 : t.size ≤ 4) (w : World) :
    Calls Tryz.prog 145 #[.string t, .int .i64 16, .int .i64 16] w fun e w' => e = .returned (prs t) ∧ w' = Lib.bytesWorld w 5 t := by
  have hemp : t.toList.isEmpty = false := by
    rw [← decide_eq_emptyBytes]
    exact decide_eq_false (fun h => by rw [h] at hne; exact absurd hne (by decide))
  have hcv := Lib.run_convert_string_bytes (P := Tryz.prog) w 9 52 5 t (u := .string) Tryz.underlying9 Tryz.underlying52 Tryz.underlying5
  have hB : ∀ j, j < t.size → (Lib.bytesWorld w 5 t).cell? ⟨w.heap.size, j, none⟩ = some (.int .u8 (bt t j : Int)) := fun j hj => by
    have := Lib.bytesWorld_cell w 5 t j hj
    rw [this]
    have hl : j < t.data.toList.length := by simpa using hj
    have e : (t.data.toList.getD j 0).toNat = bt t j := by
      rw [← bt_get t j hj]
      simp [List.getD, List.getElem?_eq_getElem hl]; rfl
    rw [e]
  obtain ⟨W1, hW1⟩ : ∃ W1, W1 = Lib.bytesWorld w 5 t := ⟨_, rfl⟩
  rw [← hW1] at hcv hB ⊢
  clear hW1
  have hmv : IntKind.u64.wrap (IntKind.u64.wrap 65536 - 1) = 65535 := by
    rw [IntKind.wrap_u64, IntKind.wrap_u64]
    decide
  go_enter Tryz.func145, Tryz.ntmps145
  go_wp2
  go_loop [12, 13, 101] (fun vu vn vi => ∃ (k acc : Nat) (a : Int), vu = .bool false ∧ vn = .int .u64 a ∧ vi = .int .i64 k ∧ k ≤ t.size ∧ Hid (a = (acc : Int) ∧ acc < 65536 ∧ numO t 0 k = some acc))
    (fun _ _ vi => t.size - (intOf vi).toNat)
  case atStart => exact ⟨0, 0, 0, rfl, rfl, rfl, by omega, rfl, by omega, rfl⟩
  case round =>
    obtain ⟨k, acc, a, rfl, rfl, rfl, hk, hh⟩ := hrel
    obtain ⟨ha, hacc, hnum⟩ := hh.out
    clear hh
    by_cases hkn : k < t.size
    · have hc := hB k hkn
      have hc256 := bt_lt t k
      obtain ⟨c, hcd⟩ : ∃ c, bt t k = c := ⟨_, rfl⟩
      rw [hcd] at hc hc256
      have hb := numO_le hnum
      have hp : (16 : Nat) ^ (k + 1) ≤ 16 ^ 4 := Nat.pow_le_pow_right (by decide) (by omega)
      have hp4 : (16 : Nat) ^ 4 = 65536 := by decide
      rw [Nat.pow_succ] at hp
      have hacc2 : acc ≤ 4095 := by omega
      have a0 : 0 ≤ a := by omega
      have a1 : a ≤ 4095 := by omega
      clear hb hp hp4 hB
      by_cases hdig : 48 ≤ c ∧ c ≤ 57
      · obtain ⟨hd0, hd1⟩ := hdig
        have hx : hexN (bt t k) = ((c - 48 : Nat) : Int) := by rw [hcd]; unfold hexN; rw [if_pos ⟨hd0, hd1⟩]; omega
        have HN : Hid (a * 16 + ((c : Int) - 48) = ((acc * 16 + (c - 48) : Nat) : Int) ∧ acc * 16 + (c - 48) < 65536 ∧ numO t 0 (k + 1) = some (acc * 16 + (c - 48))) := Lib.hid ⟨by omega, by omega, numO_next hnum hx⟩
        have iov : a * 16 + ((c : Int) - 48) ≤ 65535 := by omega
        clear hacc hacc2 hnum hx ha hcd
        go_wp2
        exact ⟨⟨k + 1, acc * 16 + (c - 48), a * 16 + ((c : Int) - 48), rfl, rfl, by congr 1, by omega, HN⟩, by simp [intOf]; omega⟩
      · obtain ⟨v, hv, hv0, hv1, hx⟩ := low_cases c hc256 hdig
        have n48 : (decide ((48 : Int) ≤ (c : Int)) && decide ((c : Int) ≤ 57)) = false := by simp; omega
        by_cases h95 : c = 95
        · subst h95
          have hv' : bits BinOp.or IntKind.u8 95 32 = 127 := by decide +kernel
          have HR := Lib.hid (show prs t = _ from prs_none (numO_bad hnum (by rw [hcd]; decide)) hkn)
          clear hv hx hacc hacc2 hnum ha hcd hdig
          go_wp2_with (go_at_call 156; refine (lower_any _ 127 _ hv').mono ?_; rintro e w' ⟨rfl, rfl⟩)
          go_ret2
          exact ⟨by rw [HR.out]; rfl, rfl⟩
        have q95 : ((c : Int) == 95) = false := by simp; omega
        by_cases hlow : v < 97
        · have HR := Lib.hid (show prs t = _ from prs_none (numO_bad hnum (by rw [hcd, hx, if_neg (by omega)]; decide)) hkn)
          clear hx hacc hacc2 hnum ha hcd h95
          go_wp2_with (go_at_call 156; refine (lower_any _ v _ hv).mono ?_; rintro e w' ⟨rfl, rfl⟩)
          all_goals go_ret2
          all_goals exact ⟨by rw [HR.out]; rfl, rfl⟩
        by_cases hhigh : 122 < v
        · have HR := Lib.hid (show prs t = _ from prs_none (numO_bad hnum (by rw [hcd, hx, if_neg (by omega)]; decide)) hkn)
          clear hx hacc hacc2 hnum ha hcd h95
          go_wp2_with (go_at_call 156; refine (lower_any _ v _ hv).mono ?_; rintro e w' ⟨rfl, rfl⟩)
          all_goals go_ret2
          all_goals exact ⟨by rw [HR.out]; rfl, rfl⟩
        have hl0 : 97 ≤ v := by omega
        have hl1 : v ≤ 122 := by omega
        by_cases hmid : 102 < v
        · have HR := Lib.hid (show prs t = _ from prs_none (numO_bad hnum (by rw [hcd, hx, if_neg (by omega)]; decide)) hkn)
          clear hx hacc hacc2 hnum ha hcd h95 hlow hhigh
          go_wp2_with (go_at_call 156; refine (lower_any _ v _ hv).mono ?_; rintro e w' ⟨rfl, rfl⟩)
          all_goals go_ret2
          all_goals exact ⟨by rw [HR.out]; rfl, rfl⟩
        · obtain ⟨d, hd⟩ : ∃ d : Nat, v - 87 = d := ⟨(v - 87).toNat, by omega⟩
          have hx' : hexN (bt t k) = (d : Int) := by rw [hcd, hx, if_pos (by omega), hd]
          have HN : Hid (a * 16 + (v - 87) = ((acc * 16 + d : Nat) : Int) ∧ acc * 16 + d < 65536 ∧ numO t 0 (k + 1) = some (acc * 16 + d)) := Lib.hid ⟨by omega, by omega, numO_next hnum hx'⟩
          have iov : a * 16 + (v - 87) ≤ 65535 := by omega
          have hl2 : v ≤ 102 := by omega
          clear hx hx' hacc hacc2 hnum ha hcd h95 hlow hhigh hmid hd
          go_wp2_with (go_at_call 156; refine (lower_any _ v _ hv).mono ?_; rintro e w' ⟨rfl, rfl⟩)
          all_goals exact ⟨⟨k + 1, acc * 16 + d, a * 16 + (v - 87), rfl, by congr 1; omega, by congr 1, by omega, HN⟩, by simp [intOf]; omega⟩
    · have hkk : k = t.size := by omega
      subst hkk
      have HF := Lib.hid (show prs t = .tuple #[.int .u64 a, .nilIface] by unfold prs; rw [hnum, ha])
      clear hacc hnum ha
      go_wp2
      go_ret2
      exact ⟨by rw [HF.out]; rfl, rfl⟩

def ErrCell (w : World) : Prop := ∃ te pe, w.cell? ⟨4, 0, none⟩ = some (.iface te pe)
theorem err_below {w w' : World} (h : ErrCell w) (hb : Below w.heap.size w w') : ErrCell w' := by
  obtain ⟨te, pe, hm⟩ := h
  exact ⟨te, pe, (hb.cell (show (⟨4, 0, none⟩ : Addr).block < w.heap.size from World.block_lt_of_cell? _ _ hm)).trans hm⟩

set_option maxRecDepth 100000 in
set_option maxHeartbeats 2000000 in
theorem parsePub (t : ByteArray) (hne : 1 ≤ t.size) (h4 : t.size ≤ 4) (w : World) (hE : ErrCell w) :
    Calls Tryz.prog 122 #[.string t, .int .i64 16, .int .i64 16] w fun e w' => ((∃ v, numO t 0 t.size = some v ∧ e = .returned (.tuple #[.int .u64 v, .nilIface])) ∨ (numO t 0 t.size = none ∧ ∃ te pe, e = .returned (.tuple #[.int .u64 0, .iface te pe]))) ∧ Below w.heap.size w w' := by
  have hI := parse16 t hne h4 w
  have hb := Lib.bytesWorld_below w 5 t
  have hE2 := err_below hE hb
  obtain ⟨W1, hW1⟩ : ∃ W1, Lib.bytesWorld w 5 t = W1 := ⟨_, rfl⟩
  rw [hW1] at hI hb hE2
  clear hW1
  cases hn : numO t 0 t.size with
  | some v =>
    have HP := Lib.hid (show prs t = .tuple #[.int .u64 v, .nilIface] by unfold prs; rw [hn])
    rw [HP.out] at hI
    clear hn
    go_enter Tryz.func122, Tryz.ntmps122
    go_wp2_with (go_at_call 145; refine hI.mono ?_; rintro e w1 ⟨rfl, rfl⟩)
    go_ret2
    exact ⟨.inl ⟨v, rfl, rfl⟩, hb⟩
  | none =>
    have HP := Lib.hid (show prs t = .tuple #[.int .u64 0, .iface 174 (.int .i64 2)] by unfold prs; rw [hn])
    rw [HP.out] at hI
    obtain ⟨te, pe, hc⟩ := hE2
    have hT := AnyPu.strconv_toError_syntax { Tryz.laysPu14 with } ⟨#[80, 97, 114, 115, 101, 85, 105, 110, 116]⟩ t 16 16 (.iface te pe) W1 (by omega) hc (.inr ⟨te, pe, rfl⟩)
    clear hn
    go_enter Tryz.func122, Tryz.ntmps122
    go_wp2_with (first | (go_at_call 145; refine hI.mono ?_; rintro e w1 ⟨rfl, rfl⟩) | (go_at_call 146; refine hT.mono ?_))
    rintro e w2 ⟨N, rfl, _, _, hb2⟩
    go_wp2
    go_ret2
    first | exact ⟨.inr ⟨trivial, _, _, rfl⟩, hb.trans (hb2.mono hb.size)⟩ | exact ⟨.inr ⟨rfl, _, _, rfl⟩, hb.trans (hb2.mono hb.size)⟩
end Go.Proofs.YtnnnanemefcmdaaGreatDoor
