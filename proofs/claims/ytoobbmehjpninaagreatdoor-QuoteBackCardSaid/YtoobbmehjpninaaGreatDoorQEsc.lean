/- The walk of the program's escape. -/
import Derived.Test.YtoobbmehjpninaaGreatDoorQNum
import Derived.Test.YtoobbmehjpninaaGreatDoorEscP
namespace Go.Proofs.YtoobbmehjpninaaGreatDoor
open Go.RowKit

theorem u_emp {u : ByteArray} (hu0 : 0 < u.size) : (u.toList == (ByteArray.mk #[]).toList) = false := by
  rw [Lib.bytes_beq_false_iff]
  intro h; rw [h] at hu0; exact absurd hu0 (by decide)
theorem u_emp2 {u : ByteArray} (hu0 : 0 < u.size) : u.toList.isEmpty = false := by
  rw [← decide_eq_emptyBytes]
  exact decide_eq_false (fun h => by rw [h] at hu0; exact absurd hu0 (by decide))
theorem u_no {u : ByteArray} {c : Nat} (hu0 : 0 < u.size) (h : u[0].toNat ≠ c) : ((u[0].toNat : Int) == (c : Int)) = false := by
  simp only [beq_eq_false_iff_ne, ne_eq]; omega

set_option maxRecDepth 100000 in
set_option maxHeartbeats 1000000 in
theorem esc_empty (w : World) :
    Calls Tryz.prog 23 #[.string ⟨#[]⟩] w fun e w' => e = .returned (.tuple #[.int .i32 0, .int .i64 0, .bool false]) ∧ Below w.heap.size w w' := by
  go_enter Tryz.func23, Tryz.ntmps23
  go_wp2
  refine bodyPost_ret (v := .tuple #[.int .i32 (0), .int .i64 0, .bool false]) (by simp [results, Tryz.results23, go_sem]) rfl ⟨rfl, Below.refl _ _⟩

set_option maxRecDepth 100000 in
set_option maxHeartbeats 1000000 in
theorem esc_bs (u : ByteArray) (w : World) (hu0 : 0 < u.size) (_hus : u.size ≤ 100000) (hb : u[0].toNat = 92) :
    Calls Tryz.prog 23 #[.string u] w fun e w' => e = .returned (.tuple #[.int .i32 92, .int .i64 1, .bool true]) ∧ Below w.heap.size w w' := by
  have hemp := u_emp hu0
  have hemp2 := u_emp2 hu0
  have p92 : ((u[0].toNat : Int) == 92) = true := by rw [hb]; decide
  have HB := Lib.hid hb
  have hw : wrap32 (u[0].toNat : Int) = (u[0].toNat : Int) := by have := u[0].toNat_lt; exact IntWalk.wrap32_in _ (by omega)
  clear hb
  go_enter Tryz.func23, Tryz.ntmps23
  go_wp2
  refine bodyPost_ret (v := .tuple #[.int .i32 ((u[0].toNat : Int)), .int .i64 1, .bool true]) (by simp [results, Tryz.results23, go_sem, hw]) rfl ⟨by rw [HB.out]; rfl, Below.refl _ _⟩

set_option maxRecDepth 100000 in
set_option maxHeartbeats 1000000 in
theorem esc_qu (u : ByteArray) (w : World) (hu0 : 0 < u.size) (_hus : u.size ≤ 100000) (hb : u[0].toNat = 34) :
    Calls Tryz.prog 23 #[.string u] w fun e w' => e = .returned (.tuple #[.int .i32 34, .int .i64 1, .bool true]) ∧ Below w.heap.size w w' := by
  have hemp := u_emp hu0
  have hemp2 := u_emp2 hu0
  have n92 : ((u[0].toNat : Int) == 92) = false := by rw [hb]; decide
  have p34 : ((u[0].toNat : Int) == 34) = true := by rw [hb]; decide
  have HB := Lib.hid hb
  have hw : wrap32 (u[0].toNat : Int) = (u[0].toNat : Int) := by have := u[0].toNat_lt; exact IntWalk.wrap32_in _ (by omega)
  clear hb
  go_enter Tryz.func23, Tryz.ntmps23
  go_wp2
  refine bodyPost_ret (v := .tuple #[.int .i32 ((u[0].toNat : Int)), .int .i64 1, .bool true]) (by simp [results, Tryz.results23, go_sem, hw]) rfl ⟨by rw [HB.out]; rfl, Below.refl _ _⟩

set_option maxRecDepth 100000 in
set_option maxHeartbeats 1000000 in
theorem esc_n (u : ByteArray) (w : World) (hu0 : 0 < u.size) (_hus : u.size ≤ 100000) (hb : u[0].toNat = 110) :
    Calls Tryz.prog 23 #[.string u] w fun e w' => e = .returned (.tuple #[.int .i32 10, .int .i64 1, .bool true]) ∧ Below w.heap.size w w' := by
  have hemp := u_emp hu0
  have hemp2 := u_emp2 hu0
  have n92 : ((u[0].toNat : Int) == 92) = false := by rw [hb]; decide
  have n34 : ((u[0].toNat : Int) == 34) = false := by rw [hb]; decide
  have p110 : ((u[0].toNat : Int) == 110) = true := by rw [hb]; decide
  clear hb
  go_enter Tryz.func23, Tryz.ntmps23
  go_wp2
  refine bodyPost_ret (v := .tuple #[.int .i32 (10), .int .i64 1, .bool true]) (by simp [results, Tryz.results23, go_sem]) rfl ⟨rfl, Below.refl _ _⟩

set_option maxRecDepth 100000 in
set_option maxHeartbeats 1000000 in
theorem esc_t (u : ByteArray) (w : World) (hu0 : 0 < u.size) (_hus : u.size ≤ 100000) (hb : u[0].toNat = 116) :
    Calls Tryz.prog 23 #[.string u] w fun e w' => e = .returned (.tuple #[.int .i32 9, .int .i64 1, .bool true]) ∧ Below w.heap.size w w' := by
  have hemp := u_emp hu0
  have hemp2 := u_emp2 hu0
  have n92 : ((u[0].toNat : Int) == 92) = false := by rw [hb]; decide
  have n34 : ((u[0].toNat : Int) == 34) = false := by rw [hb]; decide
  have n110 : ((u[0].toNat : Int) == 110) = false := by rw [hb]; decide
  have p116 : ((u[0].toNat : Int) == 116) = true := by rw [hb]; decide
  clear hb
  go_enter Tryz.func23, Tryz.ntmps23
  go_wp2
  refine bodyPost_ret (v := .tuple #[.int .i32 (9), .int .i64 1, .bool true]) (by simp [results, Tryz.results23, go_sem]) rfl ⟨rfl, Below.refl _ _⟩

set_option maxRecDepth 100000 in
set_option maxHeartbeats 1000000 in
theorem esc_x_yes (u : ByteArray) (v : Int) (w : World) (hu0 : 0 < u.size) (hus : u.size ≤ 100000) (hb : u[0].toNat = 120)
    (hN : Calls Tryz.prog 35 #[.string (u.extract 1 u.size), .int .i64 2] w fun e w' => e = .returned (.tuple #[.int .i32 v, .bool true]) ∧ Below w.heap.size w w') :
    Calls Tryz.prog 23 #[.string u] w fun e w' => e = .returned (.tuple #[.int .i32 v, .int .i64 3, .bool true]) ∧ Below w.heap.size w w' := by
  have hemp := u_emp hu0
  have hemp2 := u_emp2 hu0
  have n92 : ((u[0].toNat : Int) == 92) = false := by rw [hb]; decide
  have n34 : ((u[0].toNat : Int) == 34) = false := by rw [hb]; decide
  have n110 : ((u[0].toNat : Int) == 110) = false := by rw [hb]; decide
  have n116 : ((u[0].toNat : Int) == 116) = false := by rw [hb]; decide
  have n117 : ((u[0].toNat : Int) == 117) = false := by rw [hb]; decide
  have p120 : ((u[0].toNat : Int) == 120) = true := by rw [hb]; decide
  clear hb
  go_enter Tryz.func23, Tryz.ntmps23
  go_wp2_with (go_at_call 35; refine hN.mono ?_)
  rintro e w1 ⟨rfl, hb⟩
  go_wp2
  refine bodyPost_ret (v := .tuple #[.int .i32 (v), .int .i64 3, .bool true]) (by simp [results, Tryz.results23, go_sem]) rfl ⟨rfl, hb⟩

set_option maxRecDepth 100000 in
set_option maxHeartbeats 1000000 in
theorem esc_x_no (u : ByteArray) (v : Int) (w : World) (hu0 : 0 < u.size) (hus : u.size ≤ 100000) (hb : u[0].toNat = 120)
    (hN : Calls Tryz.prog 35 #[.string (u.extract 1 u.size), .int .i64 2] w fun e w' => e = .returned (.tuple #[.int .i32 v, .bool false]) ∧ Below w.heap.size w w') :
    Calls Tryz.prog 23 #[.string u] w fun e w' => e = .returned (.tuple #[.int .i32 0, .int .i64 0, .bool false]) ∧ Below w.heap.size w w' := by
  have hemp := u_emp hu0
  have hemp2 := u_emp2 hu0
  have n92 : ((u[0].toNat : Int) == 92) = false := by rw [hb]; decide
  have n34 : ((u[0].toNat : Int) == 34) = false := by rw [hb]; decide
  have n110 : ((u[0].toNat : Int) == 110) = false := by rw [hb]; decide
  have n116 : ((u[0].toNat : Int) == 116) = false := by rw [hb]; decide
  have n117 : ((u[0].toNat : Int) == 117) = false := by rw [hb]; decide
  have p120 : ((u[0].toNat : Int) == 120) = true := by rw [hb]; decide
  clear hb
  go_enter Tryz.func23, Tryz.ntmps23
  go_wp2_with (go_at_call 35; refine hN.mono ?_)
  rintro e w1 ⟨rfl, hb⟩
  go_wp2
  refine bodyPost_ret (v := .tuple #[.int .i32 (0), .int .i64 0, .bool false]) (by simp [results, Tryz.results23, go_sem]) rfl ⟨rfl, hb⟩

set_option maxRecDepth 100000 in
set_option maxHeartbeats 1000000 in
theorem esc_u_yes (u : ByteArray) (v : Int) (w : World) (hu0 : 0 < u.size) (hus : u.size ≤ 100000) (hb : u[0].toNat = 117)
    (hN : Calls Tryz.prog 35 #[.string (u.extract 1 u.size), .int .i64 4] w fun e w' => e = .returned (.tuple #[.int .i32 v, .bool true]) ∧ Below w.heap.size w w') :
    Calls Tryz.prog 23 #[.string u] w fun e w' => e = .returned (.tuple #[.int .i32 v, .int .i64 5, .bool true]) ∧ Below w.heap.size w w' := by
  have hemp := u_emp hu0
  have hemp2 := u_emp2 hu0
  have n92 : ((u[0].toNat : Int) == 92) = false := by rw [hb]; decide
  have n34 : ((u[0].toNat : Int) == 34) = false := by rw [hb]; decide
  have n110 : ((u[0].toNat : Int) == 110) = false := by rw [hb]; decide
  have n116 : ((u[0].toNat : Int) == 116) = false := by rw [hb]; decide
  have p117 : ((u[0].toNat : Int) == 117) = true := by rw [hb]; decide
  have n120 : ((u[0].toNat : Int) == 120) = false := by rw [hb]; decide
  clear hb
  go_enter Tryz.func23, Tryz.ntmps23
  go_wp2_with (go_at_call 35; refine hN.mono ?_)
  rintro e w1 ⟨rfl, hb⟩
  go_wp2
  refine bodyPost_ret (v := .tuple #[.int .i32 (v), .int .i64 5, .bool true]) (by simp [results, Tryz.results23, go_sem]) rfl ⟨rfl, hb⟩

set_option maxRecDepth 100000 in
set_option maxHeartbeats 1000000 in
theorem esc_u_no (u : ByteArray) (v : Int) (w : World) (hu0 : 0 < u.size) (hus : u.size ≤ 100000) (hb : u[0].toNat = 117)
    (hN : Calls Tryz.prog 35 #[.string (u.extract 1 u.size), .int .i64 4] w fun e w' => e = .returned (.tuple #[.int .i32 v, .bool false]) ∧ Below w.heap.size w w') :
    Calls Tryz.prog 23 #[.string u] w fun e w' => e = .returned (.tuple #[.int .i32 0, .int .i64 0, .bool false]) ∧ Below w.heap.size w w' := by
  have hemp := u_emp hu0
  have hemp2 := u_emp2 hu0
  have n92 : ((u[0].toNat : Int) == 92) = false := by rw [hb]; decide
  have n34 : ((u[0].toNat : Int) == 34) = false := by rw [hb]; decide
  have n110 : ((u[0].toNat : Int) == 110) = false := by rw [hb]; decide
  have n116 : ((u[0].toNat : Int) == 116) = false := by rw [hb]; decide
  have p117 : ((u[0].toNat : Int) == 117) = true := by rw [hb]; decide
  have n120 : ((u[0].toNat : Int) == 120) = false := by rw [hb]; decide
  clear hb
  go_enter Tryz.func23, Tryz.ntmps23
  go_wp2_with (go_at_call 35; refine hN.mono ?_)
  rintro e w1 ⟨rfl, hb⟩
  go_wp2
  refine bodyPost_ret (v := .tuple #[.int .i32 (0), .int .i64 0, .bool false]) (by simp [results, Tryz.results23, go_sem]) rfl ⟨rfl, hb⟩

set_option maxRecDepth 100000 in
set_option maxHeartbeats 1000000 in
theorem esc_else (u : ByteArray) (w : World) (hu0 : 0 < u.size) (_hus : u.size ≤ 100000) (h1 : u[0].toNat ≠ 92) (h2 : u[0].toNat ≠ 34) (h3 : u[0].toNat ≠ 110) (h4 : u[0].toNat ≠ 116) (h5 : u[0].toNat ≠ 117) (h6 : u[0].toNat ≠ 120) :
    Calls Tryz.prog 23 #[.string u] w fun e w' => e = .returned (.tuple #[.int .i32 0, .int .i64 0, .bool false]) ∧ Below w.heap.size w w' := by
  have hemp := u_emp hu0
  have hemp2 := u_emp2 hu0
  have n92 : ((u[0].toNat : Int) == 92) = false := u_no (c := 92) hu0 h1
  have n34 : ((u[0].toNat : Int) == 34) = false := u_no (c := 34) hu0 h2
  have n110 : ((u[0].toNat : Int) == 110) = false := u_no (c := 110) hu0 h3
  have n116 : ((u[0].toNat : Int) == 116) = false := u_no (c := 116) hu0 h4
  have n117 : ((u[0].toNat : Int) == 117) = false := u_no (c := 117) hu0 h5
  have n120 : ((u[0].toNat : Int) == 120) = false := u_no (c := 120) hu0 h6
  clear h1 h2 h3 h4 h5 h6
  go_enter Tryz.func23, Tryz.ntmps23
  go_wp2
  refine bodyPost_ret (v := .tuple #[.int .i32 (0), .int .i64 0, .bool false]) (by simp [results, Tryz.results23, go_sem]) rfl ⟨rfl, Below.refl _ _⟩

/-- What escape answers of what stands behind place i. -/
def esT (s : ByteArray) (i : Nat) : Value := if (escN s i).2 = 0 then .tuple #[.int .i32 0, .int .i64 0, .bool false] else .tuple #[.int .i32 (escN s i).1, .int .i64 ((escN s i).2 - 1), .bool true]
theorem esT_of {s : ByteArray} {i : Nat} {c m : Int} (h : escN s i = (c, m)) (hm : m ≠ 0) : esT s i = .tuple #[.int .i32 c, .int .i64 (m - 1), .bool true] := by
  unfold esT; rw [h, if_neg hm]
theorem esT_no {s : ByteArray} {i : Nat} (h : escN s i = (0, 0)) : esT s i = .tuple #[.int .i32 0, .int .i64 0, .bool false] := by
  unfold esT; rw [h, if_pos rfl]

theorem escape_prog (s : ByteArray) (i : Nat) (w : World) (hi : i < s.size) (hs : s.size ≤ 100000) (hE : ErrCell w) :
    Calls Tryz.prog 23 #[.string (s.extract (i + 1) s.size)] w fun e w' => e = .returned (esT s i) ∧ Below w.heap.size w w' := by
  have hus : (s.extract (i + 1) s.size).size = s.size - (i + 1) := by simp
  by_cases h1 : i + 1 = s.size
  · rw [esT_no (s := s) (i := i) (by unfold escN; rw [if_pos h1])]
    have he : s.extract (i + 1) s.size = ⟨#[]⟩ := by
      apply ByteArray.ext; apply Array.eq_empty_of_size_eq_zero
      have : (s.extract (i + 1) s.size).data.size = (s.extract (i + 1) s.size).size := rfl
      omega
    rw [he]
    exact esc_empty w
  have h2 : i + 1 < s.size := by omega
  have hb0 := bt_extract s (i + 1) s.size 0 (by omega) (Nat.le_refl _)
  have hn2 := numR_extract (s.extract (i + 1) s.size) 1 0 2 (by omega)
  have hn4 := numR_extract (s.extract (i + 1) s.size) 1 0 4 (by omega)
  rw [numR_extract s (i + 1) (1 + 0) 2 (by omega), show i + 1 + (1 + 0) = i + 2 by omega] at hn2
  rw [numR_extract s (i + 1) (1 + 0) 4 (by omega), show i + 1 + (1 + 0) = i + 2 by omega] at hn4
  obtain ⟨u, hu⟩ : ∃ u, s.extract (i + 1) s.size = u := ⟨_, rfl⟩
  rw [hu] at hb0 hn2 hn4 hus ⊢
  have hu0 : 0 < u.size := by omega
  have hul : u.size ≤ 100000 := by omega
  have hge : u[0].toNat = bt s (i + 1) := (bt_get u 0 hu0).trans hb0
  have hesc : escN s i = if bt s (i + 1) = 92 ∨ bt s (i + 1) = 34 then ((bt s (i + 1) : Int), 2)
      else if bt s (i + 1) = 110 then (10, 2) else if bt s (i + 1) = 116 then (9, 2)
      else if bt s (i + 1) = 120 then (if numR s (i + 2) 2 < 0 then (0, 0) else (numR s (i + 2) 2, 4))
      else if bt s (i + 1) = 117 then (if numR s (i + 2) 4 < 0 ∨ 55296 ≤ numR s (i + 2) 4 ∧ numR s (i + 2) 4 < 57344 then (0, 0) else (numR s (i + 2) 4, 6))
      else (0, 0) := by unfold escN; rw [if_neg h1]
  obtain ⟨b, hbb⟩ : ∃ b, bt s (i + 1) = b := ⟨_, rfl⟩
  rw [hbb] at hesc hge
  by_cases k92 : b = 92
  · rw [if_pos (.inl k92), k92] at hesc
    rw [esT_of hesc (by decide)]
    exact esc_bs u w hu0 hul (hge.trans k92)
  by_cases k34 : b = 34
  · rw [if_pos (.inr k34), k34] at hesc
    rw [esT_of hesc (by decide)]
    exact esc_qu u w hu0 hul (hge.trans k34)
  rw [if_neg (by omega)] at hesc
  by_cases k110 : b = 110
  · rw [if_pos k110] at hesc
    rw [esT_of hesc (by decide)]
    exact esc_n u w hu0 hul (hge.trans k110)
  rw [if_neg k110] at hesc
  by_cases k116 : b = 116
  · rw [if_pos k116] at hesc
    rw [esT_of hesc (by decide)]
    exact esc_t u w hu0 hul (hge.trans k116)
  rw [if_neg k116] at hesc
  by_cases k120 : b = 120
  · rw [if_pos k120] at hesc
    have hr := numR_range s (i + 2) 2
    have h16 : (16 : Int) ^ 2 = 256 := by decide
    rw [h16] at hr
    have hN := number_any' (u.extract 1 u.size) 2 w (by decide) (by decide) hE
    rw [hn2] at hN
    by_cases h0 : numR s (i + 2) 2 < 0
    · rw [if_pos h0] at hesc
      rw [esT_no hesc]
      unfold nuT at hN
      rw [if_pos h0] at hN
      exact esc_x_no u 0 w hu0 hul (hge.trans k120) hN
    · rw [if_neg h0] at hesc
      rw [esT_of hesc (by decide)]
      unfold nuT at hN
      rw [if_neg h0, show (!decide (55296 ≤ numR s (i + 2) 2 ∧ numR s (i + 2) 2 < 57344)) = true by simp; omega] at hN
      exact esc_x_yes u _ w hu0 hul (hge.trans k120) hN
  rw [if_neg k120] at hesc
  by_cases k117 : b = 117
  · rw [if_pos k117] at hesc
    have hN := number_any' (u.extract 1 u.size) 4 w (by decide) (by decide) hE
    rw [hn4] at hN
    by_cases h0 : numR s (i + 2) 4 < 0
    · rw [if_pos (.inl h0)] at hesc
      rw [esT_no hesc]
      unfold nuT at hN
      rw [if_pos h0] at hN
      exact esc_u_no u 0 w hu0 hul (hge.trans k117) hN
    unfold nuT at hN
    rw [if_neg h0] at hN
    by_cases h3 : 55296 ≤ numR s (i + 2) 4 ∧ numR s (i + 2) 4 < 57344
    · rw [if_pos (.inr h3)] at hesc
      rw [esT_no hesc]
      rw [decide_eq_true h3] at hN
      exact esc_u_no u _ w hu0 hul (hge.trans k117) hN
    · rw [if_neg (by omega)] at hesc
      rw [esT_of hesc (by decide)]
      rw [decide_eq_false h3] at hN
      exact esc_u_yes u _ w hu0 hul (hge.trans k117) hN
  rw [if_neg k117] at hesc
  rw [esT_no hesc]
  exact esc_else u w hu0 hul (by omega) (by omega) (by omega) (by omega) (by omega) (by omega)
end Go.Proofs.YtoobbmehjpninaaGreatDoor
