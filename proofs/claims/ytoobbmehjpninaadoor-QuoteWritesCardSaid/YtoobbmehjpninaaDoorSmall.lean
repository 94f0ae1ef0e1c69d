/- The walk of the document's small. -/
import Derived.Test.YtoobbmehjpninaaDoorSmallP
import Derived.Test.YtoobbmehjpninaaDoorOut
import Derived.Test.YtoobbmehjpninaaDoorAid
import Derived.WalkSpells
import Derived.Lib.Hide
namespace Go.Proofs.YtoobbmehjpninaaDoor
open Go.RowKit

set_option maxRecDepth 100000 in
set_option maxHeartbeats 4000000 in
theorem small_any (v n : Nat) (w : World) (hv : v < 1114112) (hn : n ≤ 4) :
    Calls Tryd.prog 22 #[.int .i64 v, .int .i64 n] w fun e w' => ∃ r, e = .returned r ∧ w'.ownsRow w.heap.size 5 1 r n (bv (smallL v n)) ∧ Below w.heap.size w w' := by
  obtain ⟨i0, hi, hz0, hz1, hz2⟩ := info_parts infoB
  have hmx : (10 : Nat) ≤ maxLen := by decide
  go_enter Tryd.func22, Tryd.ntmps22
  go_wp2
  go_loopw [0, 5, 6] (fun x o j wr => ∃ (k y : Nat), j = .int .i64 k ∧ x = .int .i64 y ∧ k ≤ n ∧ y < 1114112 ∧ Hid (y = v / 16 ^ k) ∧ wr.ownsRow w.heap.size 5 1 o k (bv (smallL v k)) ∧ Below w.heap.size w wr) (fun _ _ j _ => n - (intOf j).toNat)
  case atStart => exact ⟨0, v, rfl, rfl, by omega, hv, Lib.hid (by simp), World.ownsRow_nil _ _ _ _, Below.refl _ _⟩
  case round =>
    obtain ⟨k, y, rfl, rfl, hk, hy, hyv, hown, hb⟩ := hrel
    have hz := hb.size
    by_cases hlt : k < n
    · have hyv' := hyv.out
      have hy2 := Lib.hid (show y / 16 = v / 16 ^ (k + 1) by rw [hyv', Nat.div_div_eq_div_mul, Nat.pow_succ])
      by_cases hd : 9 < y % 16
      · skip
        have z9 : (9 : Int) < (y : Int) % 16 := by omega
        have HV := Lib.hid (show bv [dig (y % 16)] = [.int .u8 (87 + (y : Int) % 16)] by simp only [bv, List.map_cons, List.map_nil, dig_val (y % 16) (by omega)]; rw [if_pos hd]; simp)
        have ol := own_lit wr [dig (y % 16)] (by show 1 ≤ maxLen; decide) w.heap.size hz
        rw [HV.out] at ol
        have hbl : Below w.heap.size w (wr.alloc (.cells #[.int .u8 (87 + (y : Int) % 16)] 5)) := hb.alloc hz _
        rcases hown.2 with ⟨rfl, h0⟩ | ⟨g, cap, cur, rfl, hg, hgg, _⟩
        · subst h0
          have HSM := Lib.hid (show bv (smallL v 1) = [.int .u8 (87 + (y : Int) % 16)] by rw [← HV.out]; simp [smallL, hyv.out])
          clear hown hyv' hd
          go_wp2
          go_roundw
          case rel => exact ⟨1, y / 16, by go_num, by go_num, by omega, by omega, Lib.hid hy2.out, by rw [HSM.out]; exact ol, hbl⟩
          case measure => simp [intOf]; omega
        · have hc := fun j u (hj : (bv (smallL v k))[j]? = some u) => (hown.alloc (.cells #[.int .u8 (87 + (y : Int) % 16)] 5)).cells (g := g) rfl j u hj
          have HC := Lib.hid hc
          have HSM := Lib.hid (show bv (smallL v (k + 1)) = [.int .u8 (87 + (y : Int) % 16)] ++ bv (smallL v k) by rw [← HV.out, ← bv_app]; simp [smallL, hyv.out])
          clear hc hgg hyv' hd
          go_wp2_with (at_builtin; refine wpList_append_own _ rfl _ _ 32 rfl w.heap.size 5 i0 (.int .u8 0) 1 1 Tryd.underlying32 hi hz0 hz1 hz2 rfl (by decide) _ _ _ rfl ol ⟨g, 0, none⟩ k cap (bv (smallL v k)) rfl (by rw [bv_len, smallL_len]; simp) HC.out (fun x hx => by simp only [bv, List.mem_map] at hx; obtain ⟨_, _, rfl⟩ := hx; rfl) (by simp; omega) (by simp; omega) (by simp; omega) ?_)
          intro v2 w2 own2 g2 _
          have hb2 := below_of_grown hbl g2 (by simp; omega) ol
          have own2' : w2.ownsRow w.heap.size 5 1 v2 (k + 1) (bv (smallL v (k + 1))) := by rw [HSM.out, Nat.add_comm k 1]; exact own2
          clear own2 g2 hown ol hbl hb
          go_wp2
          go_roundw
          case rel => exact ⟨k + 1, y / 16, by go_num, by go_num, by omega, by omega, Lib.hid hy2.out, own2', hb2⟩
          case measure => simp [intOf]; omega
      · skip
        have z9 : (y : Int) % 16 ≤ 9 := by omega
        have HV := Lib.hid (show bv [dig (y % 16)] = [.int .u8 (48 + (y : Int) % 16)] by simp only [bv, List.map_cons, List.map_nil, dig_val (y % 16) (by omega)]; rw [if_neg hd]; simp)
        have ol := own_lit wr [dig (y % 16)] (by show 1 ≤ maxLen; decide) w.heap.size hz
        rw [HV.out] at ol
        have hbl : Below w.heap.size w (wr.alloc (.cells #[.int .u8 (48 + (y : Int) % 16)] 5)) := hb.alloc hz _
        rcases hown.2 with ⟨rfl, h0⟩ | ⟨g, cap, cur, rfl, hg, hgg, _⟩
        · subst h0
          have HSM := Lib.hid (show bv (smallL v 1) = [.int .u8 (48 + (y : Int) % 16)] by rw [← HV.out]; simp [smallL, hyv.out])
          clear hown hyv' hd
          go_wp2
          go_roundw
          case rel => exact ⟨1, y / 16, by go_num, by go_num, by omega, by omega, Lib.hid hy2.out, by rw [HSM.out]; exact ol, hbl⟩
          case measure => simp [intOf]; omega
        · have hc := fun j u (hj : (bv (smallL v k))[j]? = some u) => (hown.alloc (.cells #[.int .u8 (48 + (y : Int) % 16)] 5)).cells (g := g) rfl j u hj
          have HC := Lib.hid hc
          have HSM := Lib.hid (show bv (smallL v (k + 1)) = [.int .u8 (48 + (y : Int) % 16)] ++ bv (smallL v k) by rw [← HV.out, ← bv_app]; simp [smallL, hyv.out])
          clear hc hgg hyv' hd
          go_wp2_with (at_builtin; refine wpList_append_own _ rfl _ _ 32 rfl w.heap.size 5 i0 (.int .u8 0) 1 1 Tryd.underlying32 hi hz0 hz1 hz2 rfl (by decide) _ _ _ rfl ol ⟨g, 0, none⟩ k cap (bv (smallL v k)) rfl (by rw [bv_len, smallL_len]; simp) HC.out (fun x hx => by simp only [bv, List.mem_map] at hx; obtain ⟨_, _, rfl⟩ := hx; rfl) (by simp; omega) (by simp; omega) (by simp; omega) ?_)
          intro v2 w2 own2 g2 _
          have hb2 := below_of_grown hbl g2 (by simp; omega) ol
          have own2' : w2.ownsRow w.heap.size 5 1 v2 (k + 1) (bv (smallL v (k + 1))) := by rw [HSM.out, Nat.add_comm k 1]; exact own2
          clear own2 g2 hown ol hbl hb
          go_wp2
          go_roundw
          case rel => exact ⟨k + 1, y / 16, by go_num, by go_num, by omega, by omega, Lib.hid hy2.out, own2', hb2⟩
          case measure => simp [intOf]; omega
    · have hkn : k = n := by omega
      subst hkn
      have HO := Lib.hid hown
      clear hown
      go_wp2
      go_ret
      exact ⟨_, rfl, HO.out, hb⟩
end Go.Proofs.YtoobbmehjpninaaDoor
