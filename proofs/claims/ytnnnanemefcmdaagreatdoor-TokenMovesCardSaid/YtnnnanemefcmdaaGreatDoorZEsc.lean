/- The document's Escape of layer 5. -/
import Derived.Test.YtnnnanemefcmdaaGreatDoorZL0a
import Derived.Test.YtnnnanemefcmdaaGreatDoorZL0d
namespace Go.Proofs.YtnnnanemefcmdaaGreatDoor
open Go.RowKit

set_option maxRecDepth 100000 in
set_option maxHeartbeats 8000000 in
theorem escape_any (s : ByteArray) (i : Nat) (w : World) (hi : i < s.size) (hs : s.size ≤ 10000) :
    Calls Tryz.prog 77 #[.string s, .int .i64 i] w fun e w' => e = .returned (.tuple #[.int .i64 (escN s i).1, .int .i64 (escN s i).2]) ∧ w = w' := by
  by_cases h1 : i + 1 = s.size
  · have HR := Lib.hid (show escN s i = (0, 0) by unfold escN; rw [if_pos h1])
    have z1 : ((i : Int) == (s.size : Int) - 1) = true := by simp; omega
    clear h1
    go_enter Tryz.func77, Tryz.ntmps77
    go_wp2
    go_ret2
    exact ⟨ret_ii (by rw [HR.out]) (by rw [HR.out]), rfl⟩
  have h2 : i + 1 < s.size := by omega
  have z1 : ((i : Int) == (s.size : Int) - 1) = false := by simp; omega
  have hge := bt_get s (i + 1) h2
  by_cases hb : bt s (i + 1) = 92
  · have HR := Lib.hid (show escN s i = (92, 2) by unfold escN; rw [if_neg h1, if_pos (.inl hb), hb]; simp)
    have p92 : ((s[i + 1].toNat : Int) == 92) = true := ybyte (c := 92) h2 hb
    have HG := Lib.hid (hge.trans hb)
    clear h1 hb hge
    go_enter Tryz.func77, Tryz.ntmps77
    go_wp2
    go_ret2
    exact ⟨ret_ii (by rw [HR.out]; first | done | (rw [HG.out]; exact IntWalk.wrap64_in _ (by omega))) (by rw [HR.out]), rfl⟩
  by_cases hb : bt s (i + 1) = 34
  · have HR := Lib.hid (show escN s i = (34, 2) by unfold escN; rw [if_neg h1, if_pos (.inr hb), hb]; simp)
    have n92 : ((s[i + 1].toNat : Int) == 92) = false := nbyte (c := 92) h2 (by omega)
    have p34 : ((s[i + 1].toNat : Int) == 34) = true := ybyte (c := 34) h2 hb
    have HG := Lib.hid (hge.trans hb)
    clear h1 hb hge
    go_enter Tryz.func77, Tryz.ntmps77
    go_wp2
    go_ret2
    exact ⟨ret_ii (by rw [HR.out]; first | done | (rw [HG.out]; exact IntWalk.wrap64_in _ (by omega))) (by rw [HR.out]), rfl⟩
  by_cases hb : bt s (i + 1) = 110
  · have HR := Lib.hid (show escN s i = (10, 2) by unfold escN; rw [if_neg h1, if_neg (by omega), if_pos hb])
    have n92 : ((s[i + 1].toNat : Int) == 92) = false := nbyte (c := 92) h2 (by omega)
    have n34 : ((s[i + 1].toNat : Int) == 34) = false := nbyte (c := 34) h2 (by omega)
    have p110 : ((s[i + 1].toNat : Int) == 110) = true := ybyte (c := 110) h2 hb
    have HG := Lib.hid (hge.trans hb)
    clear h1 hb hge
    go_enter Tryz.func77, Tryz.ntmps77
    go_wp2
    go_ret2
    exact ⟨ret_ii (by rw [HR.out]; first | done | (rw [HG.out]; exact IntWalk.wrap64_in _ (by omega))) (by rw [HR.out]), rfl⟩
  by_cases hb : bt s (i + 1) = 116
  · have HR := Lib.hid (show escN s i = (9, 2) by unfold escN; rw [if_neg h1, if_neg (by omega), if_neg (by omega), if_pos hb])
    have n92 : ((s[i + 1].toNat : Int) == 92) = false := nbyte (c := 92) h2 (by omega)
    have n34 : ((s[i + 1].toNat : Int) == 34) = false := nbyte (c := 34) h2 (by omega)
    have n110 : ((s[i + 1].toNat : Int) == 110) = false := nbyte (c := 110) h2 (by omega)
    have p116 : ((s[i + 1].toNat : Int) == 116) = true := ybyte (c := 116) h2 hb
    have HG := Lib.hid (hge.trans hb)
    clear h1 hb hge
    go_enter Tryz.func77, Tryz.ntmps77
    go_wp2
    go_ret2
    exact ⟨ret_ii (by rw [HR.out]; first | done | (rw [HG.out]; exact IntWalk.wrap64_in _ (by omega))) (by rw [HR.out]), rfl⟩
  by_cases hb : bt s (i + 1) = 120
  · have hr := numR_range s (i + 2) 2
    have hesc : escN s i = if numR s (i + 2) 2 < 0 then (0, 0) else (numR s (i + 2) 2, 4) := by unfold escN; rw [if_neg h1, if_neg (by omega), if_neg (by omega), if_neg (by omega), if_pos hb]
    obtain ⟨v, hv⟩ : ∃ v, numR s (i + 2) 2 = v := ⟨_, rfl⟩
    rw [hv] at hr hesc
    have HV := Lib.hid hv
    have HE := Lib.hid hesc
    have hr2 : v < 256 := by have : (16 : Int) ^ 2 = 256 := by decide
                             omega
    have n92 : ((s[i + 1].toNat : Int) == 92) = false := nbyte (c := 92) h2 (by omega)
    have n34 : ((s[i + 1].toNat : Int) == 34) = false := nbyte (c := 34) h2 (by omega)
    have n110 : ((s[i + 1].toNat : Int) == 110) = false := nbyte (c := 110) h2 (by omega)
    have n116 : ((s[i + 1].toNat : Int) == 116) = false := nbyte (c := 116) h2 (by omega)
    have p120 : ((s[i + 1].toNat : Int) == 120) = true := ybyte (c := 120) h2 hb
    clear hv hesc h1 hb hge
    by_cases h0 : v < 0
    · go_enter Tryz.func77, Tryz.ntmps77
      go_wp2_with fail
      refine (number_any s (i + 2) 2 _ (by omega) hs (by decide)).mono ?_
      rintro e w' ⟨rfl, rfl⟩
      rw [HV.out]
      have n117 : ((s[i + 1].toNat : Int) == 117) = false := by have := p120; simp at this; simp; omega
      go_wp2
      go_ret2
      exact ⟨ret_ii (by rw [HE.out, if_pos h0]) (by rw [HE.out, if_pos h0]), rfl⟩
    · have n117 : ((s[i + 1].toNat : Int) == 117) = false := by have := p120; simp at this; simp; omega
      have z2 : ¬ v < 0 := h0
      go_enter Tryz.func77, Tryz.ntmps77
      go_wp2_with fail
      refine (number_any s (i + 2) 2 _ (by omega) hs (by decide)).mono ?_
      rintro e w' ⟨rfl, rfl⟩
      rw [HV.out]
      go_wp2
      go_ret2
      exact ⟨ret_ii (by rw [HE.out, if_neg (by omega)]) (by rw [HE.out, if_neg (by omega)]), rfl⟩
  by_cases hb : bt s (i + 1) = 117
  · have hr := numR_range s (i + 2) 4
    have hesc : escN s i = if numR s (i + 2) 4 < 0 ∨ 55296 ≤ numR s (i + 2) 4 ∧ numR s (i + 2) 4 < 57344 then (0, 0) else (numR s (i + 2) 4, 6) := by unfold escN; rw [if_neg h1, if_neg (by omega), if_neg (by omega), if_neg (by omega), if_neg (by omega), if_pos hb]
    obtain ⟨v, hv⟩ : ∃ v, numR s (i + 2) 4 = v := ⟨_, rfl⟩
    rw [hv] at hr hesc
    have HV := Lib.hid hv
    have HE := Lib.hid hesc
    have hr2 : v < 65536 := by have : (16 : Int) ^ 4 = 65536 := by decide
                               omega
    have n92 : ((s[i + 1].toNat : Int) == 92) = false := nbyte (c := 92) h2 (by omega)
    have n34 : ((s[i + 1].toNat : Int) == 34) = false := nbyte (c := 34) h2 (by omega)
    have n110 : ((s[i + 1].toNat : Int) == 110) = false := nbyte (c := 110) h2 (by omega)
    have n116 : ((s[i + 1].toNat : Int) == 116) = false := nbyte (c := 116) h2 (by omega)
    have n120 : ((s[i + 1].toNat : Int) == 120) = false := nbyte (c := 120) h2 (by omega)
    have p117 : ((s[i + 1].toNat : Int) == 117) = true := ybyte (c := 117) h2 hb
    clear hv hesc h1 hb hge
    by_cases h0 : v < 0
    · go_enter Tryz.func77, Tryz.ntmps77
      go_wp2_with fail
      refine (number_any s (i + 2) 4 _ (by omega) hs (by decide)).mono ?_
      rintro e w' ⟨rfl, rfl⟩
      rw [HV.out]
      go_wp2
      go_ret2
      exact ⟨ret_ii (by rw [HE.out, if_pos (.inl h0)]) (by rw [HE.out, if_pos (.inl h0)]), rfl⟩
    by_cases h3 : 55296 ≤ v
    · by_cases h4 : v < 57344
      · go_enter Tryz.func77, Tryz.ntmps77
        go_wp2_with fail
        refine (number_any s (i + 2) 4 _ (by omega) hs (by decide)).mono ?_
        rintro e w' ⟨rfl, rfl⟩
        rw [HV.out]
        go_wp2
        go_ret2
        exact ⟨ret_ii (by rw [HE.out, if_pos (.inr ⟨h3, h4⟩)]) (by rw [HE.out, if_pos (.inr ⟨h3, h4⟩)]), rfl⟩
      · go_enter Tryz.func77, Tryz.ntmps77
        go_wp2_with fail
        refine (number_any s (i + 2) 4 _ (by omega) hs (by decide)).mono ?_
        rintro e w' ⟨rfl, rfl⟩
        rw [HV.out]
        go_wp2
        go_ret2
        exact ⟨ret_ii (by rw [HE.out, if_neg (by omega)]) (by rw [HE.out, if_neg (by omega)]), rfl⟩
    · go_enter Tryz.func77, Tryz.ntmps77
      go_wp2_with fail
      refine (number_any s (i + 2) 4 _ (by omega) hs (by decide)).mono ?_
      rintro e w' ⟨rfl, rfl⟩
      rw [HV.out]
      go_wp2
      go_ret2
      exact ⟨ret_ii (by rw [HE.out, if_neg (by omega)]) (by rw [HE.out, if_neg (by omega)]), rfl⟩
  · have HE := Lib.hid (show escN s i = (0, 0) by unfold escN; rw [if_neg h1, if_neg (by omega), if_neg (by omega), if_neg (by omega), if_neg (by omega), if_neg hb])
    have n92 : ((s[i + 1].toNat : Int) == 92) = false := nbyte (c := 92) h2 (by omega)
    have n34 : ((s[i + 1].toNat : Int) == 34) = false := nbyte (c := 34) h2 (by omega)
    have n110 : ((s[i + 1].toNat : Int) == 110) = false := nbyte (c := 110) h2 (by omega)
    have n116 : ((s[i + 1].toNat : Int) == 116) = false := nbyte (c := 116) h2 (by omega)
    have n120 : ((s[i + 1].toNat : Int) == 120) = false := nbyte (c := 120) h2 (by omega)
    have n117 : ((s[i + 1].toNat : Int) == 117) = false := nbyte (c := 117) h2 (by omega)
    clear h1 hb hge
    go_enter Tryz.func77, Tryz.ntmps77
    go_wp2
    go_ret2
    exact ⟨ret_ii (by rw [HE.out]) (by rw [HE.out]), rfl⟩
end Go.Proofs.YtnnnanemefcmdaaGreatDoor
