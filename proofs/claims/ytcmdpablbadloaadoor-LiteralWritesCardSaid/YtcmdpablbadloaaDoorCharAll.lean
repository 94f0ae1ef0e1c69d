/- The document's Char answers chr. -/
import Derived.Test.YtcmdpablbadloaaDoorChr
import Derived.Test.YtcmdpablbadloaaDoorCharA
import Derived.Test.YtcmdpablbadloaaDoorCharD
import Derived.Test.YtcmdpablbadloaaDoorCharD2
import Derived.Test.YtcmdpablbadloaaDoorCharE
import Derived.Test.YtcmdpablbadloaaDoorCharE2
namespace Go.Proofs.YtcmdpablbadloaaDoor
open Go.RowKit

theorem ret_ints {a b a' b' : Int} (h : a = a') (h' : b = b') : Ending.returned (.tuple #[.int .i64 a, .int .i64 b]) = .returned (.tuple #[.int .i64 a', .int .i64 b']) := by rw [h, h']

def CharPost (s : ByteArray) (i : Nat) (w : World) (e : Ending) (w' : World) : Prop :=
  e = .returned (.tuple #[.int .i64 (chr s i).1, .int .i64 (chr s i).2]) ∧ ∃ n, w' = w.drewN n

set_option maxHeartbeats 1000000 in
theorem char_any (s : ByteArray) (i : Nat) (w : World) (h : i < s.size) (hs : s.size ≤ maxLen) :
    Calls Tryd.prog 42 #[.string s, .int .i64 i] w (CharPost s i w) := by
  have e0 := bt_get s i h
  have g0 := bt_lt s i
  have mk : ∀ {a b : Int} {e : Ending} {w' : World}, (e = .returned (.tuple #[.int .i64 a, .int .i64 b]) ∧ ∃ n, w' = w.drewN n) → ((chr s i).1 : Int) = a → ((chr s i).2 : Int) = b → CharPost s i w e w' := by
    intro a b e w' h1 h2 h3; exact ⟨by rw [h1.1, h2, h3], h1.2⟩
  by_cases a1 : bt s i < 128
  · exact (char_a s i w hs h (by omega)).mono fun e w' hp => mk hp (by rw [chr_a a1, e0]) (by rw [chr_a a1]; rfl)
  by_cases a2 : bt s i < 194
  · exact (char_b s i w hs h (by omega) (by omega)).mono fun e w' hp => mk hp (by rw [chr_b (by omega) a2]; rfl) (by rw [chr_b (by omega) a2]; rfl)
  by_cases a3 : 245 ≤ bt s i
  · exact (char_f s i w hs h (by omega)).mono fun e w' hp => mk hp (by rw [chr_f a3]; rfl) (by rw [chr_f a3]; rfl)
  by_cases a4 : bt s i < 224
  · by_cases z : s.size ≤ i + 1
    · have k := chr_c_no (s := s) (i := i) (by omega) a4 (by omega)
      exact (char_c_short s i w hs h z (by omega) (by omega)).mono fun e w' hp => mk hp (by rw [k]; rfl) (by rw [k]; rfl)
    have e1 := bt_get s (i + 1) (by omega)
    by_cases b1 : bt s (i + 1) < 128
    · have k := chr_c_no (s := s) (i := i) (by omega) a4 (by omega)
      exact (char_c_lo s i w hs (by omega) (by omega) (by omega) (by omega)).mono fun e w' hp => mk hp (by rw [k]; rfl) (by rw [k]; rfl)
    by_cases b2 : 192 ≤ bt s (i + 1)
    · have k := chr_c_no (s := s) (i := i) (by omega) a4 (by omega)
      exact (char_c_hi s i w hs (by omega) (by omega) (by omega) (by omega)).mono fun e w' hp => mk hp (by rw [k]; rfl) (by rw [k]; rfl)
    have k := chr_c (s := s) (i := i) (by omega) a4 (by omega) (by omega) (by omega)
    exact (char_c s i w hs (by omega) (by omega) (by omega) (by omega) (by omega)).mono fun e w' hp => mk hp (by rw [k]; simp only []; omega) (by rw [k]; rfl)
  by_cases a5 : bt s i < 240
  · by_cases z : s.size ≤ i + 2
    · have k := chr_d_no (s := s) (i := i) (by omega) a5 (by omega)
      exact (char_d_short s i w hs h z (by omega) (by omega)).mono fun e w' hp => mk hp (by rw [k]; rfl) (by rw [k]; rfl)
    have e1 := bt_get s (i + 1) (by omega)
    have e2 := bt_get s (i + 2) (by omega)
    by_cases b1 : bt s (i + 1) < 128
    · have k := chr_d_no (s := s) (i := i) (by omega) a5 (by omega)
      exact (char_d_lo1 s i w hs (by omega) (by omega) (by omega) (by omega)).mono fun e w' hp => mk hp (by rw [k]; rfl) (by rw [k]; rfl)
    by_cases b2 : 192 ≤ bt s (i + 1)
    · have k := chr_d_no (s := s) (i := i) (by omega) a5 (by omega)
      exact (char_d_hi1 s i w hs (by omega) (by omega) (by omega) (by omega)).mono fun e w' hp => mk hp (by rw [k]; rfl) (by rw [k]; rfl)
    by_cases c1 : bt s (i + 2) < 128
    · have k := chr_d_no (s := s) (i := i) (by omega) a5 (by omega)
      exact (char_d_lo2 s i w hs (by omega) (by omega) (by omega) (by omega) (by omega) (by omega)).mono fun e w' hp => mk hp (by rw [k]; rfl) (by rw [k]; rfl)
    by_cases c2 : 192 ≤ bt s (i + 2)
    · have k := chr_d_no (s := s) (i := i) (by omega) a5 (by omega)
      exact (char_d_hi2 s i w hs (by omega) (by omega) (by omega) (by omega) (by omega) (by omega)).mono fun e w' hp => mk hp (by rw [k]; rfl) (by rw [k]; rfl)
    obtain ⟨c, hc⟩ : ∃ c, c + 224 * 4096 + 128 * 64 + 128 = bt s i * 4096 + bt s (i + 1) * 64 + bt s (i + 2) := ⟨bt s i * 4096 + bt s (i + 1) * 64 + bt s (i + 2) - (224 * 4096 + 128 * 64 + 128), by omega⟩
    have k := chr_d (s := s) (i := i) (by omega) a5 (by omega) (by omega) (by omega) (by omega) (by omega) c hc
    by_cases d1 : c < 2048
    · rw [if_neg (by omega)] at k
      exact (char_d_under s i w hs (by omega) (by omega) (by omega) (by omega) (by omega) (by omega) (by omega) (by omega)).mono fun e w' hp => mk hp (by rw [k]; rfl) (by rw [k]; rfl)
    by_cases d2 : c < 55296
    · rw [if_pos (by omega)] at k
      exact (char_d_ok1 s i w hs (by omega) (by omega) (by omega) (by omega) (by omega) (by omega) (by omega) (by omega) (by omega)).mono fun e w' hp => mk hp (by rw [k]; simp only []; omega) (by rw [k]; rfl)
    by_cases d3 : c ≤ 57343
    · rw [if_neg (by omega)] at k
      exact (char_d_gap s i w hs (by omega) (by omega) (by omega) (by omega) (by omega) (by omega) (by omega) (by omega) (by omega)).mono fun e w' hp => mk hp (by rw [k]; rfl) (by rw [k]; rfl)
    rw [if_pos (by omega)] at k
    exact (char_d_ok2 s i w hs (by omega) (by omega) (by omega) (by omega) (by omega) (by omega) (by omega) (by omega)).mono fun e w' hp => mk hp (by rw [k]; simp only []; omega) (by rw [k]; rfl)
  by_cases z : s.size ≤ i + 3
  · have k := chr_e_no (s := s) (i := i) (by omega) (by omega) (by omega)
    exact (char_e_short s i w hs h z (by omega) (by omega)).mono fun e w' hp => mk hp (by rw [k]; rfl) (by rw [k]; rfl)
  have e1 := bt_get s (i + 1) (by omega)
  have e2 := bt_get s (i + 2) (by omega)
  have e3 := bt_get s (i + 3) (by omega)
  by_cases b1 : bt s (i + 1) < 128
  · have k := chr_e_no (s := s) (i := i) (by omega) (by omega) (by omega)
    exact (char_e_lo1 s i w hs (by omega) (by omega) (by omega) (by omega)).mono fun e w' hp => mk hp (by rw [k]; rfl) (by rw [k]; rfl)
  by_cases b2 : 192 ≤ bt s (i + 1)
  · have k := chr_e_no (s := s) (i := i) (by omega) (by omega) (by omega)
    exact (char_e_hi1 s i w hs (by omega) (by omega) (by omega) (by omega)).mono fun e w' hp => mk hp (by rw [k]; rfl) (by rw [k]; rfl)
  by_cases c1 : bt s (i + 2) < 128
  · have k := chr_e_no (s := s) (i := i) (by omega) (by omega) (by omega)
    exact (char_e_lo2 s i w hs (by omega) (by omega) (by omega) (by omega) (by omega) (by omega)).mono fun e w' hp => mk hp (by rw [k]; rfl) (by rw [k]; rfl)
  by_cases c2 : 192 ≤ bt s (i + 2)
  · have k := chr_e_no (s := s) (i := i) (by omega) (by omega) (by omega)
    exact (char_e_hi2 s i w hs (by omega) (by omega) (by omega) (by omega) (by omega) (by omega)).mono fun e w' hp => mk hp (by rw [k]; rfl) (by rw [k]; rfl)
  by_cases f1 : bt s (i + 3) < 128
  · have k := chr_e_no (s := s) (i := i) (by omega) (by omega) (by omega)
    exact (char_e_lo3 s i w hs (by omega) (by omega) (by omega) (by omega) (by omega) (by omega) (by omega) (by omega)).mono fun e w' hp => mk hp (by rw [k]; rfl) (by rw [k]; rfl)
  by_cases f2 : 192 ≤ bt s (i + 3)
  · have k := chr_e_no (s := s) (i := i) (by omega) (by omega) (by omega)
    exact (char_e_hi3 s i w hs (by omega) (by omega) (by omega) (by omega) (by omega) (by omega) (by omega) (by omega)).mono fun e w' hp => mk hp (by rw [k]; rfl) (by rw [k]; rfl)
  obtain ⟨c, hc⟩ : ∃ c, c + 240 * 262144 + 128 * 4096 + 128 * 64 + 128 = bt s i * 262144 + bt s (i + 1) * 4096 + bt s (i + 2) * 64 + bt s (i + 3) := ⟨bt s i * 262144 + bt s (i + 1) * 4096 + bt s (i + 2) * 64 + bt s (i + 3) - (240 * 262144 + 128 * 4096 + 128 * 64 + 128), by omega⟩
  have k := chr_e (s := s) (i := i) (by omega) (by omega) (by omega) (by omega) (by omega) (by omega) (by omega) (by omega) (by omega) c hc
  by_cases d1 : c < 65536
  · rw [if_neg (by omega)] at k
    exact (char_e_under s i w hs (by omega) (by omega) (by omega) (by omega) (by omega) (by omega) (by omega) (by omega) (by omega) (by omega)).mono fun e w' hp => mk hp (by rw [k]; rfl) (by rw [k]; rfl)
  by_cases d2 : c < 1114112
  · rw [if_pos (by omega)] at k
    exact (char_e_ok s i w hs (by omega) (by omega) (by omega) (by omega) (by omega) (by omega) (by omega) (by omega) (by omega) (by omega) (by omega)).mono fun e w' hp => mk hp (by rw [k]; simp only []; omega) (by rw [k]; rfl)
  rw [if_neg (by omega)] at k
  exact (char_e_over s i w hs (by omega) (by omega) (by omega) (by omega) (by omega) (by omega) (by omega) (by omega) (by omega) (by omega)).mono fun e w' hp => mk hp (by rw [k]; rfl) (by rw [k]; rfl)
end Go.Proofs.YtcmdpablbadloaaDoor
