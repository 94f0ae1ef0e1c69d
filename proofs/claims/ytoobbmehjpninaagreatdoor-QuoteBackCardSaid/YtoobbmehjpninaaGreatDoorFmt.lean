/- The walk of strconv.FormatInt at base 16, at numbers below 65536. -/
import Derived.Test.YtoobbmehjpninaaGreatDoorSmallP
import Derived.Test.YtoobbmehjpninaaGreatDoorRSingleP
import Derived.Test.YtoobbmehjpninaaGreatDoorChr
import Derived.WalkKit
import Derived.WalkSpells
import Derived.WalkLawsBesides
import Derived.Lib.Hide
import Derived.Laws.BitsLemmas
import Derived.Laws.Bits64
namespace Go.Proofs.YtoobbmehjpninaaGreatDoor
open Go.RowKit

def TzCell (w : World) : Prop := w.cell? ⟨7, 15, none⟩ = some (.int .u8 4)

set_option maxRecDepth 100000 in
set_option maxHeartbeats 1000000 in
theorem tz16 (w : World) (h : TzCell w) :
    Calls Tryz.prog 93 #[.int .u64 16] w fun e w' => e = .returned (.int .i64 4) ∧ w = w' := by
  unfold TzCell at h
  have e1 : IntKind.u64.wrap (-16) = 18446744073709551600 := by rw [IntKind.wrap_u64]; decide
  have e2 : bits BinOp.and IntKind.u64 16 18446744073709551600 = 16 := by decide +kernel
  have e3 : IntKind.u64.wrap (16 * 285870213051353865) = 4573923408821661840 := by rw [IntKind.wrap_u64]; decide
  have e4 : IntKind.u64.wrap 4573923408821661840 = 4573923408821661840 := by rw [IntKind.wrap_u64]; decide
  go_enter Tryz.func93, Tryz.ntmps93
  go_wp2
  refine bodyPost_ret (v := .int .i64 4) (by simp [results, Tryz.results93, go_sem]) rfl ⟨rfl, rfl⟩

theorem wraps63 (n : Int) (h₀ : 0 ≤ n) (h₁ : n < 2 ^ 63) : IntKind.u64.wrap n = n := by rw [IntKind.wrap_u64]; omega
theorem and15 (y : Nat) (h : y < 65536) : bits .and .u64 (y : Int) 15 = ((y % 16 : Nat) : Int) := by
  have h := bits_mask .u64 63 (by decide) wraps63 4 (by decide) (y : Int) (by omega) (by omega)
  have e : ((2 : Int) ^ 4 - 1) = 15 := by decide
  have e2 : ((2 : Int) ^ 4) = 16 := by decide
  rw [e, e2] at h
  rw [h]; omega
theorem tz_lt {w : World} (h : TzCell w) : 7 < w.heap.size := World.block_lt_of_cell? _ _ h
theorem tz_alloc {w : World} (h : TzCell w) (o : Obj) : TzCell (w.alloc o) := (World.cell?_alloc_lt _ _ _ (tz_lt h)).trans h
/-- A row of 65 bytes, whose last k are the last k digits of v. -/
def Tail (w : World) (B v k : Nat) : Prop := ∃ cs : Array Value, w.heap[B]? = some (.cells cs 121 (0, 0)) ∧ cs.size = 65 ∧ cs.toList.drop (65 - k) = bv (smallL v k)
theorem dig_str (d : Nat) (h : d < 16) (h' : d < (ByteArray.mk #[48, 49, 50, 51, 52, 53, 54, 55, 56, 57, 97, 98, 99, 100, 101, 102, 103, 104, 105, 106, 107, 108, 109, 110, 111, 112, 113, 114, 115, 116, 117, 118, 119, 120, 121, 122]).size) : (ByteArray.mk #[48, 49, 50, 51, 52, 53, 54, 55, 56, 57, 97, 98, 99, 100, 101, 102, 103, 104, 105, 106, 107, 108, 109, 110, 111, 112, 113, 114, 115, 116, 117, 118, 119, 120, 121, 122])[d]'h' = dig d := by
  have : ∀ d : Fin 16, (ByteArray.mk #[48, 49, 50, 51, 52, 53, 54, 55, 56, 57, 97, 98, 99, 100, 101, 102, 103, 104, 105, 106, 107, 108, 109, 110, 111, 112, 113, 114, 115, 116, 117, 118, 119, 120, 121, 122])[d.val]'(Nat.lt_of_lt_of_le d.isLt (by decide)) = dig d.val := by decide +kernel
  exact this ⟨d, h⟩
theorem tail_step {cs : Array Value} {v k y : Nat} (hsz : cs.size = 65) (hk : k ≤ 3) (hdr : cs.toList.drop (65 - k) = bv (smallL v k)) (hy : y = v / 16 ^ k) :
    (cs.setIfInBounds (65 - k - 1) (.int .u8 ((dig (y % 16)).toNat : Int))).toList.drop (65 - (k + 1)) = bv (smallL v (k + 1)) := by
  have e : 65 - (k + 1) = 65 - k - 1 := by omega
  rw [e, Array.toList_setIfInBounds, List.drop_eq_getElem_cons (by simp; omega)]
  have e2 : 65 - k - 1 + 1 = 65 - k := by omega
  rw [e2]
  simp only [List.getElem_set_self, List.drop_set, if_pos (show 65 - k - 1 < 65 - k by omega), hdr, smallL, hy]
  rfl
/-- The row with one digit more. -/
theorem Tail.next {wr : World} {B v k y : Nat} {cs : Array Value} (hcs : wr.heap[B]? = some (.cells cs 121 (0, 0))) (hsz : cs.size = 65) (hk : k ≤ 3) (hdr : cs.toList.drop (65 - k) = bv (smallL v k)) (hy : y = v / 16 ^ k) :
    Tail (wr.setCell ⟨B, 65 - k - 1, none⟩ (.int .u8 ((dig (y % 16)).toNat : Int))) B v (k + 1) :=
  ⟨_, heap_setCell_same wr B _ cs 121 _ hcs, by simpa using hsz, tail_step hsz hk hdr hy⟩
theorem Tail.cells {w : World} {B v k : Nat} (h : Tail w B v k) (_hk : k ≤ 4) (j : Nat) (hj : j < (smallL v k).length) : w.cell? ((⟨B, 65 - k, none⟩ : Addr).add j) = some (.int .u8 ((smallL v k)[j].toNat : Int)) := by
  obtain ⟨cs, hcs, hsz, hdr⟩ := h
  rw [show (⟨B, 65 - k, none⟩ : Addr).add j = ⟨B, 65 - k + j, none⟩ by simp [Addr.add]]
  refine cell_heap4 hcs _ _ ?_
  have : (cs.toList.drop (65 - k))[j]? = some (.int .u8 ((smallL v k)[j].toNat : Int)) := by
    rw [hdr]; simp [bv, List.getElem?_eq_getElem hj]
  rw [List.getElem?_drop] at this
  simpa using this
theorem slice65 (B l : Nat) (x : Int) (hx : x = l) (hl : l < 65) (wx : World) :
    (Instr.sliceAt 121 (.pointer (some ⟨B, 0, none⟩)) (some (.int .i64 x)) none none).run Tryz.prog wx = .ok (.slice (some ⟨B, l, none⟩) (65 - l) (65 - l)) wx := by
  have ha : Tryz.prog.arrayLen 121 = 65 := by kernel_rfl
  have hs : (sizeOf (Tryz.prog.elem 121)).run Tryz.prog wx = .ok 1 wx := by
    have he : Tryz.prog.elem 121 = 5 := by kernel_rfl
    rw [he]
    simp [go_sem]
  subst hx
  rw [run_sliceAt_array_l wx 121 ⟨B, 0, none⟩ (by kernel_rfl) .i64 l (by omega) (by rw [ha]; omega), hs]
  simp only [Result.andThen_ok, slicedAt, ha, Int.toNat_natCast, Nat.mul_one]
  rw [if_neg (by omega)]
  simp [Addr.add]
  omega


set_option maxRecDepth 100000 in
set_option maxHeartbeats 4000000 in
theorem fbits_any (v : Nat) (hv : v < 65536) (w : World) (h : TzCell w) :
    Calls Tryz.prog 70 #[.slice none 0 0, .int .u64 v, .int .i64 16, .bool false, .bool false] w fun e w' => ∃ n, 1 ≤ n ∧ n ≤ 4 ∧ v < 16 ^ n ∧ (n = 1 ∨ 16 ^ (n - 1) ≤ v) ∧ e = .returned (.tuple #[.slice none 0 0, .string ⟨(smallL v n).toArray⟩]) ∧ Below w.heap.size w w' := by
  have e4 : bits BinOp.and IntKind.i64 16 15 = 0 := by decide +kernel
  go_enter Tryz.func70, Tryz.ntmps70
  go_wp2_with (first | (go_at_call 93; refine (tz16 _ ?_).mono ?_) | go_in)
  · exact tz_alloc h _
  · rintro e w' ⟨rfl, rfl⟩
    go_wp2
    go_loopw [1, 13] (fun u i wr => ∃ k y : Nat, u = .int .u64 y ∧ i = .int .i64 ((65 - k : Nat) : Int) ∧ k ≤ 3 ∧ y < 65536 ∧ Hid (y = v / 16 ^ k) ∧ Hid (k = 0 ∨ 16 ^ k ≤ v) ∧ Tail wr w.heap.size v k ∧ Below w.heap.size w wr) (fun u _ _ => (intOf u).toNat)
    case atStart => exact ⟨0, v, rfl, rfl, by omega, hv, Lib.hid (by simp), Lib.hid (.inl rfl), ⟨_, heap_alloc_new w _, by kernel_rfl, by rw [show Tryz.zeroCells121.toList.drop 65 = [] by kernel_rfl]; rfl⟩, (Below.refl _ _).alloc (Nat.le_refl _) _⟩
    case round =>
      obtain ⟨k, y, rfl, rfl, hk, hy, hyv, hkv, ht, hb⟩ := hrel
      obtain ⟨cs, hcs, hsz, hdr⟩ := ht
      have hwl : w.heap.size < wr.heap.size := (Array.getElem?_eq_some_iff.1 hcs).1
      obtain ⟨c0, hc0⟩ : ∃ c0, cs[65 - k - 1]? = some c0 := ⟨_, Array.getElem?_eq_getElem (by omega)⟩
      have rc := cell_heap4 hcs (65 - k - 1) c0 hc0
      have rf := free_heap4 hcs (65 - k - 1)
      have HCS := Lib.hid hcs
      obtain ⟨d, hd⟩ : ∃ d, y % 16 = d := ⟨_, rfl⟩
      have hd16 : d < 16 := by omega
      clear hcs
      have hdig := dig_str d hd16
      by_cases h16 : 16 ≤ y
      · have hand := and15 y hy
        rw [hd] at hand
        have HN := Lib.hid (show Tail (wr.setCell ⟨w.heap.size, 65 - k - 1, none⟩ (.int .u8 ((dig d).toNat : Int))) w.heap.size v (k + 1) from hd ▸ Tail.next HCS.out hsz hk hdr hyv.out)
        have hy2 := Lib.hid (show y / 16 = v / 16 ^ (k + 1) by rw [hyv.out, Nat.div_div_eq_div_mul, Nat.pow_succ])
        have hkv2 : 16 ^ (k + 1) ≤ v := by
          have h1 : 1 ≤ v / 16 ^ (k + 1) := by have := hy2.out; omega
          have := Nat.div_mul_le_self v (16 ^ (k + 1))
          calc 16 ^ (k + 1) = 1 * 16 ^ (k + 1) := by omega
            _ ≤ v / 16 ^ (k + 1) * 16 ^ (k + 1) := Nat.mul_le_mul_right _ h1
            _ ≤ v := this
        have hk3 : k + 1 ≤ 3 := by
          rcases Nat.lt_or_ge k 3 with h | h
          · omega
          · obtain rfl : k = 3 := by omega
            have : (16 : Nat) ^ (3 + 1) = 65536 := by decide
            omega
        have HK := Lib.hid hkv2
        clear hkv2 hdr
        go_wp2
        refine ⟨⟨k + 1, y / 16, by simp, by congr 1; omega, hk3, by omega, Lib.hid hy2.out, Lib.hid (.inr HK.out), HN.out, hb.setCell (p := ⟨w.heap.size, _, none⟩) (Nat.le_refl _) _⟩, by simp [intOf]; omega⟩
      · have hyd : y = d := by omega
        subst hyd
        have HN := Lib.hid (show Tail (wr.setCell ⟨w.heap.size, 65 - k - 1, none⟩ (.int .u8 ((dig y).toNat : Int))) w.heap.size v (k + 1) from by
          have := Tail.next HCS.out hsz hk hdr hyv.out
          rwa [hd] at this)
        have hsl := slice65 w.heap.size (65 - k - 1) (((65 - k : Nat) : Int) - 1) (by omega) (by omega)
        have hlen : 65 - (65 - k - 1) = (smallL v (k + 1)).length := by rw [smallL_len]; omega
        rw [hlen] at hsl
        have hcv : (convert 39 9 (.slice (some ⟨w.heap.size, 65 - k - 1, none⟩) (smallL v (k + 1)).length (smallL v (k + 1)).length)).run Tryz.prog (wr.setCell ⟨w.heap.size, 65 - k - 1, none⟩ (.int .u8 ((dig y).toNat : Int))) = .ok (.string ⟨(smallL v (k + 1)).toArray⟩) (wr.setCell ⟨w.heap.size, 65 - k - 1, none⟩ (.int .u8 ((dig y).toNat : Int))) :=
          run_convert_bytes_back _ 39 9 5 ⟨w.heap.size, 65 - k - 1, none⟩ _ (smallL v (k + 1)) Tryz.underlying39 Tryz.underlying5 Tryz.underlying9 (fun j hj => HN.out.cells (by omega) j hj)
        have HV := Lib.hid (show v < 16 ^ (k + 1) by
          have h1 : v / 16 ^ k < 16 := by rw [← hyv.out]; omega
          have := (Nat.div_lt_iff_lt_mul (Nat.pow_pos (by decide))).1 h1
          rw [Nat.pow_succ]; omega)
        have HK : Hid (k + 1 = 1 ∨ 16 ^ (k + 1 - 1) ≤ v) := Lib.hid (by rcases hkv.out with h | h
                                                                        · left; omega
                                                                        · right; simpa using h)
        clear hlen hdr
        go_wp2
        refine bodyPost_ret (v := .tuple #[.slice none 0 0, .string ⟨(smallL v (k + 1)).toArray⟩]) (by simp [results, Tryz.results70, go_sem]) rfl ⟨k + 1, by omega, by omega, HV.out, HK.out, rfl, ?_⟩
        exact hb.setCell (p := ⟨w.heap.size, _, none⟩) (Nat.le_refl _) _

set_option maxRecDepth 100000 in
set_option maxHeartbeats 1000000 in
theorem format16 (v : Nat) (hv : v < 65536) (w : World) (h : TzCell w) :
    Calls Tryz.prog 40 #[.int .i64 v, .int .i64 16] w fun e w' => ∃ n, 1 ≤ n ∧ n ≤ 4 ∧ v < 16 ^ n ∧ (n = 1 ∨ 16 ^ (n - 1) ≤ v) ∧ e = .returned (.string ⟨(smallL v n).toArray⟩) ∧ Below w.heap.size w w' := by
  have hw : IntKind.u64.wrap (v : Int) = v := by rw [IntKind.wrap_u64]; omega
  go_enter Tryz.func40, Tryz.ntmps40
  go_wp2_with (first | (go_at_call 70; refine (fbits_any v hv _ h).mono ?_) | go_in)
  rintro e w' ⟨n, h1, h2, h3, h4, rfl, hb⟩
  go_wp2
  refine bodyPost_ret (v := .string ⟨(smallL v n).toArray⟩) (by simp [results, Tryz.results40, go_sem]) rfl ⟨n, h1, h2, h3, h4, rfl, hb⟩
#print axioms format16
end Go.Proofs.YtoobbmehjpninaaGreatDoor
