/- The walk of the program's ReadHeader (layer 6). -/
import Derived.Test.YtnnnanemefcmdaaGreatDoorZHead
import Derived.WalkKit
import Derived.WalkSpells
import Derived.Lib.Hide
namespace Go.Proofs.YtnnnanemefcmdaaGreatDoor
open Go.RowKit
set_option maxRecDepth 100000 in
set_option maxHeartbeats 2000000 in
theorem pHead_no (s : ByteArray) (p : Int) (w : World) (h : p < 0 ∨ (s.size : Int) ≤ p ∨ ∃ (i : Nat) (_ : i < s.size), p = i ∧ bt s i ≠ 124) :
    Calls Tryz.prog 70 #[.string s, .int .i64 p] w fun e w' => e = .returned (.tuple #[.agg #[.int .i64 0, .int .i64 0], .int .i64 0, .bool false]) ∧ Below w.heap.size w w' := by
  rcases h with h | h | ⟨i, hi, rfl, hb⟩
  · have d0 : decide (p < 0) = true := decide_eq_true h
    go_enter Tryz.func70, Tryz.ntmps70
    go_wp2
    refine bodyPost_ret (v := .tuple #[.agg #[.int .i64 0, .int .i64 0], .int .i64 0, .bool false]) (by simp [results, Tryz.results70, go_sem]) rfl ⟨rfl, (Below.refl _ _).alloc (Nat.le_refl _) _⟩
  · have d0 : decide (p < 0) = false := decide_eq_false (by omega)
    have d1 : decide ((s.size : Int) ≤ p) = true := decide_eq_true h
    go_enter Tryz.func70, Tryz.ntmps70
    go_wp2
    refine bodyPost_ret (v := .tuple #[.agg #[.int .i64 0, .int .i64 0], .int .i64 0, .bool false]) (by simp [results, Tryz.results70, go_sem]) rfl ⟨rfl, (Below.refl _ _).alloc (Nat.le_refl _) _⟩
  · have d0 : decide ((i : Int) < 0) = false := decide_eq_false (by omega)
    have d1 : decide (s.size ≤ i) = false := decide_eq_false (by omega)
    have q : ((s[i].toNat : Int) != 124) = true := by
      have e := bt_get s i hi
      simp only [bne_iff_ne, ne_eq]; omega
    go_enter Tryz.func70, Tryz.ntmps70
    go_wp2
    refine bodyPost_ret (v := .tuple #[.agg #[.int .i64 0, .int .i64 0], .int .i64 0, .bool false]) (by simp [results, Tryz.results70, go_sem]) rfl ⟨rfl, (Below.refl _ _).alloc (Nat.le_refl _) _⟩
set_option maxRecDepth 100000 in
set_option maxHeartbeats 2000000 in
theorem pHead_dm (s : ByteArray) (p : Nat) (w : World) (hs : s.size ≤ 1000000) (hp : p < s.size) (h124 : bt s p = 124) (h1 : p + 1 < s.size) (h2 : 49 ≤ bt s (p + 1)) (h3 : bt s (p + 1) ≤ 57) (h4 : p + 1 + 1 < s.size) (h5 : bt s (p + 1 + 1) = 45) :
    Calls Tryz.prog 70 #[.string s, .int .i64 p] w fun e w' => e = .returned (.tuple #[.agg #[.int .i64 ((bt s (p + 1) : Int) - 48), .int .i64 1], .int .i64 ((p + 1 + 1 + 1 : Nat) : Int), .bool true]) ∧ Below w.heap.size w w' := by
  have d0 : decide ((p : Int) < 0) = false := decide_eq_false (by omega)
  have d1 : decide (s.size ≤ p) = false := decide_eq_false (by omega)
  have q : ((s[p].toNat : Int) != 124) = false := by
    have e := bt_get s p hp
    simp only [bne_eq_false_iff_eq]; omega
  have e1 := bt_get s (p + 1) h1
  have c1 : (49 : Int) ≤ (s[p + 1].toNat : Int) := by omega
  have c2 : (s[p + 1].toNat : Int) ≤ 57 := by omega
  have HB := Lib.hid e1
  clear e1
  have m1 : ((s[p + 1 + 1].toNat : Int) == 45) = true := by_yes (c := 45) h4 h5
  clear h2 h3 h5
  clear h124
  go_enter Tryz.func70, Tryz.ntmps70
  go_wp2
  refine bodyPost_ret (v := .tuple #[.agg #[.int .i64 ((bt s (p + 1) : Int) - 48), .int .i64 1], .int .i64 ((p + 1 + 1 + 1 : Nat) : Int), .bool true]) (by simp [results, Tryz.results70, go_sem, HB.out]) rfl ⟨rfl, ?_⟩
  exact ((Below.refl _ _).alloc (Nat.le_refl _) _).alloc (by simp) _
set_option maxRecDepth 100000 in
set_option maxHeartbeats 2000000 in
theorem pHead_dp (s : ByteArray) (p : Nat) (w : World) (hs : s.size ≤ 1000000) (hp : p < s.size) (h124 : bt s p = 124) (h1 : p + 1 < s.size) (h2 : 49 ≤ bt s (p + 1)) (h3 : bt s (p + 1) ≤ 57) (h4 : p + 1 + 1 < s.size) (h5 : bt s (p + 1 + 1) = 43) :
    Calls Tryz.prog 70 #[.string s, .int .i64 p] w fun e w' => e = .returned (.tuple #[.agg #[.int .i64 ((bt s (p + 1) : Int) - 48), .int .i64 2], .int .i64 ((p + 1 + 1 + 1 : Nat) : Int), .bool true]) ∧ Below w.heap.size w w' := by
  have d0 : decide ((p : Int) < 0) = false := decide_eq_false (by omega)
  have d1 : decide (s.size ≤ p) = false := decide_eq_false (by omega)
  have q : ((s[p].toNat : Int) != 124) = false := by
    have e := bt_get s p hp
    simp only [bne_eq_false_iff_eq]; omega
  have e1 := bt_get s (p + 1) h1
  have c1 : (49 : Int) ≤ (s[p + 1].toNat : Int) := by omega
  have c2 : (s[p + 1].toNat : Int) ≤ 57 := by omega
  have HB := Lib.hid e1
  clear e1
  have m1 : ((s[p + 1 + 1].toNat : Int) == 45) = false := by_no (c := 45) h4 (by omega)
  have m2 : ((s[p + 1 + 1].toNat : Int) == 43) = true := by_yes (c := 43) h4 h5
  clear h2 h3 h5
  clear h124
  go_enter Tryz.func70, Tryz.ntmps70
  go_wp2
  refine bodyPost_ret (v := .tuple #[.agg #[.int .i64 ((bt s (p + 1) : Int) - 48), .int .i64 2], .int .i64 ((p + 1 + 1 + 1 : Nat) : Int), .bool true]) (by simp [results, Tryz.results70, go_sem, HB.out]) rfl ⟨rfl, ?_⟩
  exact ((Below.refl _ _).alloc (Nat.le_refl _) _).alloc (by simp) _
set_option maxRecDepth 100000 in
set_option maxHeartbeats 2000000 in
theorem pHead_dn (s : ByteArray) (p : Nat) (w : World) (hs : s.size ≤ 1000000) (hp : p < s.size) (h124 : bt s p = 124) (h1 : p + 1 < s.size) (h2 : 49 ≤ bt s (p + 1)) (h3 : bt s (p + 1) ≤ 57) (h4 : p + 1 + 1 < s.size) (h5 : bt s (p + 1 + 1) ≠ 45) (h6 : bt s (p + 1 + 1) ≠ 43) :
    Calls Tryz.prog 70 #[.string s, .int .i64 p] w fun e w' => e = .returned (.tuple #[.agg #[.int .i64 ((bt s (p + 1) : Int) - 48), .int .i64 0], .int .i64 ((p + 1 + 1 : Nat) : Int), .bool true]) ∧ Below w.heap.size w w' := by
  have d0 : decide ((p : Int) < 0) = false := decide_eq_false (by omega)
  have d1 : decide (s.size ≤ p) = false := decide_eq_false (by omega)
  have q : ((s[p].toNat : Int) != 124) = false := by
    have e := bt_get s p hp
    simp only [bne_eq_false_iff_eq]; omega
  have e1 := bt_get s (p + 1) h1
  have c1 : (49 : Int) ≤ (s[p + 1].toNat : Int) := by omega
  have c2 : (s[p + 1].toNat : Int) ≤ 57 := by omega
  have HB := Lib.hid e1
  clear e1
  have m1 : ((s[p + 1 + 1].toNat : Int) == 45) = false := by_no (c := 45) h4 h5
  have m2 : ((s[p + 1 + 1].toNat : Int) == 43) = false := by_no (c := 43) h4 h6
  clear h2 h3 h5 h6
  clear h124
  go_enter Tryz.func70, Tryz.ntmps70
  go_wp2
  refine bodyPost_ret (v := .tuple #[.agg #[.int .i64 ((bt s (p + 1) : Int) - 48), .int .i64 0], .int .i64 ((p + 1 + 1 : Nat) : Int), .bool true]) (by simp [results, Tryz.results70, go_sem, HB.out]) rfl ⟨rfl, ?_⟩
  exact ((Below.refl _ _).alloc (Nat.le_refl _) _).alloc (by simp) _
set_option maxRecDepth 100000 in
set_option maxHeartbeats 2000000 in
theorem pHead_de (s : ByteArray) (p : Nat) (w : World) (hs : s.size ≤ 1000000) (hp : p < s.size) (h124 : bt s p = 124) (h1 : p + 1 < s.size) (h2 : 49 ≤ bt s (p + 1)) (h3 : bt s (p + 1) ≤ 57) (h4 : s.size ≤ p + 1 + 1) :
    Calls Tryz.prog 70 #[.string s, .int .i64 p] w fun e w' => e = .returned (.tuple #[.agg #[.int .i64 ((bt s (p + 1) : Int) - 48), .int .i64 0], .int .i64 ((p + 1 + 1 : Nat) : Int), .bool true]) ∧ Below w.heap.size w w' := by
  have d0 : decide ((p : Int) < 0) = false := decide_eq_false (by omega)
  have d1 : decide (s.size ≤ p) = false := decide_eq_false (by omega)
  have q : ((s[p].toNat : Int) != 124) = false := by
    have e := bt_get s p hp
    simp only [bne_eq_false_iff_eq]; omega
  have e1 := bt_get s (p + 1) h1
  have c1 : (49 : Int) ≤ (s[p + 1].toNat : Int) := by omega
  have c2 : (s[p + 1].toNat : Int) ≤ 57 := by omega
  have HB := Lib.hid e1
  clear e1
  clear h2 h3
  clear h124
  go_enter Tryz.func70, Tryz.ntmps70
  go_wp2
  refine bodyPost_ret (v := .tuple #[.agg #[.int .i64 ((bt s (p + 1) : Int) - 48), .int .i64 0], .int .i64 ((p + 1 + 1 : Nat) : Int), .bool true]) (by simp [results, Tryz.results70, go_sem, HB.out]) rfl ⟨rfl, ?_⟩
  exact ((Below.refl _ _).alloc (Nat.le_refl _) _).alloc (by simp) _
set_option maxRecDepth 100000 in
set_option maxHeartbeats 2000000 in
theorem pHead_e (s : ByteArray) (p : Nat) (w : World) (hs : s.size ≤ 1000000) (hp : p < s.size) (h124 : bt s p = 124) (h1 : s.size ≤ p + 1) :
    Calls Tryz.prog 70 #[.string s, .int .i64 p] w fun e w' => e = .returned (.tuple #[.agg #[.int .i64 (0), .int .i64 0], .int .i64 ((p + 1 : Nat) : Int), .bool true]) ∧ Below w.heap.size w w' := by
  have d0 : decide ((p : Int) < 0) = false := decide_eq_false (by omega)
  have d1 : decide (s.size ≤ p) = false := decide_eq_false (by omega)
  have q : ((s[p].toNat : Int) != 124) = false := by
    have e := bt_get s p hp
    simp only [bne_eq_false_iff_eq]; omega
  skip
  clear h124
  go_enter Tryz.func70, Tryz.ntmps70
  go_wp2
  refine bodyPost_ret (v := .tuple #[.agg #[.int .i64 (0), .int .i64 0], .int .i64 ((p + 1 : Nat) : Int), .bool true]) (by simp [results, Tryz.results70, go_sem]) rfl ⟨rfl, ?_⟩
  exact ((Below.refl _ _).alloc (Nat.le_refl _) _).alloc (by simp) _
set_option maxRecDepth 100000 in
set_option maxHeartbeats 2000000 in
theorem pHead_m (s : ByteArray) (p : Nat) (w : World) (hs : s.size ≤ 1000000) (hp : p < s.size) (h124 : bt s p = 124) (h1 : p + 1 < s.size) (h5 : bt s (p + 1) = 45) :
    Calls Tryz.prog 70 #[.string s, .int .i64 p] w fun e w' => e = .returned (.tuple #[.agg #[.int .i64 (0), .int .i64 1], .int .i64 ((p + 1 + 1 : Nat) : Int), .bool true]) ∧ Below w.heap.size w w' := by
  have d0 : decide ((p : Int) < 0) = false := decide_eq_false (by omega)
  have d1 : decide (s.size ≤ p) = false := decide_eq_false (by omega)
  have q : ((s[p].toNat : Int) != 124) = false := by
    have e := bt_get s p hp
    simp only [bne_eq_false_iff_eq]; omega
  have e1 := bt_get s (p + 1) h1
  have c1 : (s[p + 1].toNat : Int) ≤ 48 := by omega
  clear e1
  have m1 : ((s[p + 1].toNat : Int) == 45) = true := by_yes (c := 45) h1 h5
  clear h5
  clear h124
  go_enter Tryz.func70, Tryz.ntmps70
  go_wp2
  refine bodyPost_ret (v := .tuple #[.agg #[.int .i64 (0), .int .i64 1], .int .i64 ((p + 1 + 1 : Nat) : Int), .bool true]) (by simp [results, Tryz.results70, go_sem]) rfl ⟨rfl, ?_⟩
  exact ((Below.refl _ _).alloc (Nat.le_refl _) _).alloc (by simp) _
set_option maxRecDepth 100000 in
set_option maxHeartbeats 2000000 in
theorem pHead_p (s : ByteArray) (p : Nat) (w : World) (hs : s.size ≤ 1000000) (hp : p < s.size) (h124 : bt s p = 124) (h1 : p + 1 < s.size) (h5 : bt s (p + 1) = 43) :
    Calls Tryz.prog 70 #[.string s, .int .i64 p] w fun e w' => e = .returned (.tuple #[.agg #[.int .i64 (0), .int .i64 2], .int .i64 ((p + 1 + 1 : Nat) : Int), .bool true]) ∧ Below w.heap.size w w' := by
  have d0 : decide ((p : Int) < 0) = false := decide_eq_false (by omega)
  have d1 : decide (s.size ≤ p) = false := decide_eq_false (by omega)
  have q : ((s[p].toNat : Int) != 124) = false := by
    have e := bt_get s p hp
    simp only [bne_eq_false_iff_eq]; omega
  have e1 := bt_get s (p + 1) h1
  have c1 : (s[p + 1].toNat : Int) ≤ 48 := by omega
  clear e1
  have m1 : ((s[p + 1].toNat : Int) == 45) = false := by_no (c := 45) h1 (by omega)
  have m2 : ((s[p + 1].toNat : Int) == 43) = true := by_yes (c := 43) h1 h5
  clear h5
  clear h124
  go_enter Tryz.func70, Tryz.ntmps70
  go_wp2
  refine bodyPost_ret (v := .tuple #[.agg #[.int .i64 (0), .int .i64 2], .int .i64 ((p + 1 + 1 : Nat) : Int), .bool true]) (by simp [results, Tryz.results70, go_sem]) rfl ⟨rfl, ?_⟩
  exact ((Below.refl _ _).alloc (Nat.le_refl _) _).alloc (by simp) _
set_option maxRecDepth 100000 in
set_option maxHeartbeats 2000000 in
theorem pHead_nl (s : ByteArray) (p : Nat) (w : World) (hs : s.size ≤ 1000000) (hp : p < s.size) (h124 : bt s p = 124) (h1 : p + 1 < s.size) (h2 : bt s (p + 1) ≤ 48) (h5 : bt s (p + 1) ≠ 45) (h6 : bt s (p + 1) ≠ 43) :
    Calls Tryz.prog 70 #[.string s, .int .i64 p] w fun e w' => e = .returned (.tuple #[.agg #[.int .i64 (0), .int .i64 0], .int .i64 ((p + 1 : Nat) : Int), .bool true]) ∧ Below w.heap.size w w' := by
  have d0 : decide ((p : Int) < 0) = false := decide_eq_false (by omega)
  have d1 : decide (s.size ≤ p) = false := decide_eq_false (by omega)
  have q : ((s[p].toNat : Int) != 124) = false := by
    have e := bt_get s p hp
    simp only [bne_eq_false_iff_eq]; omega
  have e1 := bt_get s (p + 1) h1
  have c1 : (s[p + 1].toNat : Int) ≤ 48 := by omega
  clear e1
  have m1 : ((s[p + 1].toNat : Int) == 45) = false := by_no (c := 45) h1 h5
  have m2 : ((s[p + 1].toNat : Int) == 43) = false := by_no (c := 43) h1 h6
  clear h5 h6 h2
  clear h124
  go_enter Tryz.func70, Tryz.ntmps70
  go_wp2
  refine bodyPost_ret (v := .tuple #[.agg #[.int .i64 (0), .int .i64 0], .int .i64 ((p + 1 : Nat) : Int), .bool true]) (by simp [results, Tryz.results70, go_sem]) rfl ⟨rfl, ?_⟩
  exact ((Below.refl _ _).alloc (Nat.le_refl _) _).alloc (by simp) _
set_option maxRecDepth 100000 in
set_option maxHeartbeats 2000000 in
theorem pHead_nh (s : ByteArray) (p : Nat) (w : World) (hs : s.size ≤ 1000000) (hp : p < s.size) (h124 : bt s p = 124) (h1 : p + 1 < s.size) (h2 : 57 < bt s (p + 1)) (h5 : bt s (p + 1) ≠ 45) (h6 : bt s (p + 1) ≠ 43) :
    Calls Tryz.prog 70 #[.string s, .int .i64 p] w fun e w' => e = .returned (.tuple #[.agg #[.int .i64 (0), .int .i64 0], .int .i64 ((p + 1 : Nat) : Int), .bool true]) ∧ Below w.heap.size w w' := by
  have d0 : decide ((p : Int) < 0) = false := decide_eq_false (by omega)
  have d1 : decide (s.size ≤ p) = false := decide_eq_false (by omega)
  have q : ((s[p].toNat : Int) != 124) = false := by
    have e := bt_get s p hp
    simp only [bne_eq_false_iff_eq]; omega
  have e1 := bt_get s (p + 1) h1
  have c1 : (49 : Int) ≤ (s[p + 1].toNat : Int) := by omega
  have c2 : (57 : Int) < (s[p + 1].toNat : Int) := by omega
  clear e1
  have m1 : ((s[p + 1].toNat : Int) == 45) = false := by_no (c := 45) h1 h5
  have m2 : ((s[p + 1].toNat : Int) == 43) = false := by_no (c := 43) h1 h6
  clear h5 h6 h2
  clear h124
  go_enter Tryz.func70, Tryz.ntmps70
  go_wp2
  refine bodyPost_ret (v := .tuple #[.agg #[.int .i64 (0), .int .i64 0], .int .i64 ((p + 1 : Nat) : Int), .bool true]) (by simp [results, Tryz.results70, go_sem]) rfl ⟨rfl, ?_⟩
  exact ((Below.refl _ _).alloc (Nat.le_refl _) _).alloc (by simp) _
theorem pHead_yes (s : ByteArray) (p : Nat) (w : World) (hs : s.size ≤ 1000000) (hp : p < s.size) (h124 : bt s p = 124) :
    Calls Tryz.prog 70 #[.string s, .int .i64 p] w fun e w' => e = .returned (.tuple #[.agg #[.int .i64 (hdr s p).1, .int .i64 (hdr s p).2.1], .int .i64 (hdr s p).2.2, .bool true]) ∧ Below w.heap.size w w' := by
  by_cases h1 : p + 1 < s.size
  · by_cases hd : 49 ≤ bt s (p + 1) ∧ bt s (p + 1) ≤ 57
    · have hI : hdI s (p + 1) = (bt s (p + 1) - 48, p + 1 + 1) := by unfold hdI; rw [if_pos ⟨h1, hd⟩]
      have hn : ((bt s (p + 1) - 48 : Nat) : Int) = (bt s (p + 1) : Int) - 48 := by omega
      by_cases h4 : p + 1 + 1 < s.size
      · by_cases h5 : bt s (p + 1 + 1) = 45
        · rw [hdr_of hI (show hdC s (p + 1 + 1) = (1, p + 1 + 1 + 1) by unfold hdC; rw [if_pos ⟨h4, h5⟩])]
          simp only [hn]
          exact pHead_dm s p w hs hp h124 h1 hd.1 hd.2 h4 h5
        by_cases h6 : bt s (p + 1 + 1) = 43
        · rw [hdr_of hI (show hdC s (p + 1 + 1) = (2, p + 1 + 1 + 1) by unfold hdC; rw [if_neg (fun h => h5 h.2), if_pos ⟨h4, h6⟩])]
          simp only [hn]
          exact pHead_dp s p w hs hp h124 h1 hd.1 hd.2 h4 h6
        · rw [hdr_of hI (show hdC s (p + 1 + 1) = (0, p + 1 + 1) by unfold hdC; rw [if_neg (fun h => h5 h.2), if_neg (fun h => h6 h.2)])]
          simp only [hn]
          exact pHead_dn s p w hs hp h124 h1 hd.1 hd.2 h4 h5 h6
      · rw [hdr_of hI (show hdC s (p + 1 + 1) = (0, p + 1 + 1) by unfold hdC; rw [if_neg (fun h => h4 h.1), if_neg (fun h => h4 h.1)])]
        simp only [hn]
        exact pHead_de s p w hs hp h124 h1 hd.1 hd.2 (by omega)
    · have hI : hdI s (p + 1) = (0, p + 1) := by unfold hdI; rw [if_neg (fun h => hd h.2)]
      by_cases h5 : bt s (p + 1) = 45
      · rw [hdr_of hI (show hdC s (p + 1) = (1, p + 1 + 1) by unfold hdC; rw [if_pos ⟨h1, h5⟩])]
        exact pHead_m s p w hs hp h124 h1 h5
      by_cases h6 : bt s (p + 1) = 43
      · rw [hdr_of hI (show hdC s (p + 1) = (2, p + 1 + 1) by unfold hdC; rw [if_neg (fun h => h5 h.2), if_pos ⟨h1, h6⟩])]
        exact pHead_p s p w hs hp h124 h1 h6
      · rw [hdr_of hI (show hdC s (p + 1) = (0, p + 1) by unfold hdC; rw [if_neg (fun h => h5 h.2), if_neg (fun h => h6 h.2)])]
        by_cases hl : bt s (p + 1) ≤ 48
        · exact pHead_nl s p w hs hp h124 h1 hl h5 h6
        · exact pHead_nh s p w hs hp h124 h1 (by omega) h5 h6
  · rw [hdr_of (show hdI s (p + 1) = (0, p + 1) by unfold hdI; rw [if_neg (fun h => h1 h.1)]) (show hdC s (p + 1) = (0, p + 1) by unfold hdC; rw [if_neg (fun h => h1 h.1), if_neg (fun h => h1 h.1)])]
    exact pHead_e s p w hs hp h124 (by omega)
end Go.Proofs.YtnnnanemefcmdaaGreatDoor
