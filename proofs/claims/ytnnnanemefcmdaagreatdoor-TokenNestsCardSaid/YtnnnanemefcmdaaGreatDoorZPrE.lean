/- The walks of the program's dash, ends, quoted (layer 7). -/
import Derived.Test.YtnnnanemefcmdaaGreatDoorZL1c
import Derived.Test.YtnnnanemefcmdaaGreatDoorZL0c
namespace Go.Proofs.YtnnnanemefcmdaaGreatDoor
open Go.RowKit

/-- The last token's kind; none: 0. -/
def lastK (toks : List Tk) : Nat := (toks.getLast?.map (·.1)).getD 0
theorem own_nil3 {w : World} {base : Nat} {e : TypeId} {size : Nat} {v : Value} {xs : List Value} (h : w.ownsRow base e size v 0 xs) : ∃ r cap, v = .slice r 0 cap := by
  rcases h.2 with ⟨rfl, _⟩ | ⟨g, cap, cur, rfl, _⟩ <;> exact ⟨_, _, rfl⟩
theorem flat3 (l : List Tk) : (l.flatMap tk0).length = l.length * 3 := by
  induction l with
  | nil => rfl
  | cons x l ih => rw [List.flatMap_cons, List.length_append, ih, List.length_cons]; simp [tk0]; omega
set_option maxRecDepth 100000 in
set_option maxHeartbeats 1000000 in
theorem prDash_no_any {W0 : World} {R B g : Nat} {s : ByteArray} {tv : Value} {toks : List Tk} {op : List UInt8} (i : Nat) (w : World) (h : St W0 R B g s tv toks op w) (hs : s.size ≤ 3000) (_hi : i < s.size) (hn : i + 1 < s.size) (h32 : bt s (i + 1) ≠ 32)  :
    Calls Tryz.prog 32 #[.pointer (some ⟨B, 0, none⟩), .int .i64 i] w fun e w' => e = .returned (.bool false) ∧ w = w' := by
  have q1 : decide ((i : Int) + 1 < (s.size : Int)) = true := decide_eq_true (by omega)
  have q32 : ((s[i + 1].toNat : Int) != 32) = true := (ne_true (c := 32) hn h32).1
  have c0 := cell_hp h.row 0 _ rfl
  have c1 := cell_hp h.row 1 _ rfl
  clear h h32
  go_enter Tryz.func32, Tryz.ntmps32
  go_wp2
  go_ret
  exact ⟨rfl, rfl⟩
set_option maxRecDepth 100000 in
set_option maxHeartbeats 1000000 in
theorem prDash_e_nil {W0 : World} {R B g : Nat} {s : ByteArray} {tv : Value}  {op : List UInt8} (i : Nat) (w : World) (h : St W0 R B g s tv [] op w) (hs : s.size ≤ 3000) (hi : i < s.size) (he : i + 1 = s.size)  :
    Calls Tryz.prog 32 #[.pointer (some ⟨B, 0, none⟩), .int .i64 i] w fun e w' => e = .returned (.bool true) ∧ w = w' := by
  obtain ⟨rr, cap, rfl⟩ := own_nil3 h.tok
  have q1 : decide ((i : Int) + 1 < (s.size : Int)) = false := decide_eq_false (by omega)
  have c0 := cell_hp h.row 0 _ rfl
  have c1 := cell_hp h.row 1 _ rfl
  clear h he
  go_enter Tryz.func32, Tryz.ntmps32
  go_wp2
  go_ret
  exact ⟨rfl, rfl⟩
set_option maxRecDepth 100000 in
set_option maxHeartbeats 1000000 in
theorem prDash_e_dash {W0 : World} {R B g : Nat} {s : ByteArray} {tv : Value} {r : List Tk} {x : Tk} {op : List UInt8} (i : Nat) (w : World) (h : St W0 R B g s tv (r ++ [x]) op w) (hs : s.size ≤ 3000) (hi : i < s.size) (he : i + 1 = s.size) (hk : x.1 = 1) :
    Calls Tryz.prog 32 #[.pointer (some ⟨B, 0, none⟩), .int .i64 i] w fun e w' => e = .returned (.bool true) ∧ w = w' := by
  obtain ⟨n, hn0⟩ : ∃ n, r.length = n := ⟨_, rfl⟩
  have hl1 : (r ++ [x]).length = n + 1 := by simp [hn0]
  have htok := h.tok
  rw [hl1] at htok
  obtain ⟨gt, cap, rfl, hnc, hcm, hg0, hgl, hcs⟩ := own_cells htok (by omega)
  unfold maxLen at hcm
  have ck : w.cell? ⟨gt, n * 3, none⟩ = some (.int .i64 (x.1 : Nat)) := by
    refine hcs _ _ ?_
    rw [List.flatMap_append, List.getElem?_append_right (by rw [flat3]; omega), flat3]
    rw [show n * 3 - r.length * 3 = 0 by omega]
    simp [tk0]
  have y0 : ((n : Int) + 1 == 0) = false := by simp only [beq_eq_false_iff_ne, ne_eq]; omega
  have y1 : (0 : Int) ≤ (n : Int) := by omega
  have y2 : (n : Int) < (n : Int) + 1 := by omega
  have qk : ((x.1 : Int) == 1) = true := by simp only [beq_iff_eq]; omega
  have q1 : decide ((i : Int) + 1 < (s.size : Int)) = false := decide_eq_false (by omega)
  have c0 := cell_hp h.row 0 _ rfl
  have c1 := cell_hp h.row 1 _ rfl
  clear h he hk hn0 hl1 htok hcs
  go_enter Tryz.func32, Tryz.ntmps32
  go_wp2
  go_ret
  exact ⟨rfl, rfl⟩
set_option maxRecDepth 100000 in
set_option maxHeartbeats 1000000 in
theorem prDash_e_oth {W0 : World} {R B g : Nat} {s : ByteArray} {tv : Value} {r : List Tk} {x : Tk} {op : List UInt8} (i : Nat) (w : World) (h : St W0 R B g s tv (r ++ [x]) op w) (hs : s.size ≤ 3000) (hi : i < s.size) (he : i + 1 = s.size) (hk : x.1 ≠ 1) :
    Calls Tryz.prog 32 #[.pointer (some ⟨B, 0, none⟩), .int .i64 i] w fun e w' => e = .returned (.bool false) ∧ w = w' := by
  obtain ⟨n, hn0⟩ : ∃ n, r.length = n := ⟨_, rfl⟩
  have hl1 : (r ++ [x]).length = n + 1 := by simp [hn0]
  have htok := h.tok
  rw [hl1] at htok
  obtain ⟨gt, cap, rfl, hnc, hcm, hg0, hgl, hcs⟩ := own_cells htok (by omega)
  unfold maxLen at hcm
  have ck : w.cell? ⟨gt, n * 3, none⟩ = some (.int .i64 (x.1 : Nat)) := by
    refine hcs _ _ ?_
    rw [List.flatMap_append, List.getElem?_append_right (by rw [flat3]; omega), flat3]
    rw [show n * 3 - r.length * 3 = 0 by omega]
    simp [tk0]
  have y0 : ((n : Int) + 1 == 0) = false := by simp only [beq_eq_false_iff_ne, ne_eq]; omega
  have y1 : (0 : Int) ≤ (n : Int) := by omega
  have y2 : (n : Int) < (n : Int) + 1 := by omega
  have qk : ((x.1 : Int) == 1) = false := by simp only [beq_eq_false_iff_ne, ne_eq]; omega
  have q1 : decide ((i : Int) + 1 < (s.size : Int)) = false := decide_eq_false (by omega)
  have c0 := cell_hp h.row 0 _ rfl
  have c1 := cell_hp h.row 1 _ rfl
  clear h he hk hn0 hl1 htok hcs
  go_enter Tryz.func32, Tryz.ntmps32
  go_wp2
  go_ret
  exact ⟨rfl, rfl⟩
set_option maxRecDepth 100000 in
set_option maxHeartbeats 1000000 in
theorem prDash_b_nil {W0 : World} {R B g : Nat} {s : ByteArray} {tv : Value}  {op : List UInt8} (i : Nat) (w : World) (h : St W0 R B g s tv [] op w) (hs : s.size ≤ 3000) (_hi : i < s.size) (hn : i + 1 < s.size) (h32 : bt s (i + 1) = 32)  :
    Calls Tryz.prog 32 #[.pointer (some ⟨B, 0, none⟩), .int .i64 i] w fun e w' => e = .returned (.bool true) ∧ w = w' := by
  obtain ⟨rr, cap, rfl⟩ := own_nil3 h.tok
  have q1 : decide ((i : Int) + 1 < (s.size : Int)) = true := decide_eq_true (by omega)
  have q32 : ((s[i + 1].toNat : Int) != 32) = false := (eq_true (c := 32) hn h32).1
  have c0 := cell_hp h.row 0 _ rfl
  have c1 := cell_hp h.row 1 _ rfl
  clear h h32
  go_enter Tryz.func32, Tryz.ntmps32
  go_wp2
  go_ret
  exact ⟨rfl, rfl⟩
set_option maxRecDepth 100000 in
set_option maxHeartbeats 1000000 in
theorem prDash_b_dash {W0 : World} {R B g : Nat} {s : ByteArray} {tv : Value} {r : List Tk} {x : Tk} {op : List UInt8} (i : Nat) (w : World) (h : St W0 R B g s tv (r ++ [x]) op w) (hs : s.size ≤ 3000) (_hi : i < s.size) (hn : i + 1 < s.size) (h32 : bt s (i + 1) = 32) (hk : x.1 = 1) :
    Calls Tryz.prog 32 #[.pointer (some ⟨B, 0, none⟩), .int .i64 i] w fun e w' => e = .returned (.bool true) ∧ w = w' := by
  obtain ⟨n, hn0⟩ : ∃ n, r.length = n := ⟨_, rfl⟩
  have hl1 : (r ++ [x]).length = n + 1 := by simp [hn0]
  have htok := h.tok
  rw [hl1] at htok
  obtain ⟨gt, cap, rfl, hnc, hcm, hg0, hgl, hcs⟩ := own_cells htok (by omega)
  unfold maxLen at hcm
  have ck : w.cell? ⟨gt, n * 3, none⟩ = some (.int .i64 (x.1 : Nat)) := by
    refine hcs _ _ ?_
    rw [List.flatMap_append, List.getElem?_append_right (by rw [flat3]; omega), flat3]
    rw [show n * 3 - r.length * 3 = 0 by omega]
    simp [tk0]
  have y0 : ((n : Int) + 1 == 0) = false := by simp only [beq_eq_false_iff_ne, ne_eq]; omega
  have y1 : (0 : Int) ≤ (n : Int) := by omega
  have y2 : (n : Int) < (n : Int) + 1 := by omega
  have qk : ((x.1 : Int) == 1) = true := by simp only [beq_iff_eq]; omega
  have q1 : decide ((i : Int) + 1 < (s.size : Int)) = true := decide_eq_true (by omega)
  have q32 : ((s[i + 1].toNat : Int) != 32) = false := (eq_true (c := 32) hn h32).1
  have c0 := cell_hp h.row 0 _ rfl
  have c1 := cell_hp h.row 1 _ rfl
  clear h h32 hk hn0 hl1 htok hcs
  go_enter Tryz.func32, Tryz.ntmps32
  go_wp2
  go_ret
  exact ⟨rfl, rfl⟩
set_option maxRecDepth 100000 in
set_option maxHeartbeats 1000000 in
theorem prDash_b_oth {W0 : World} {R B g : Nat} {s : ByteArray} {tv : Value} {r : List Tk} {x : Tk} {op : List UInt8} (i : Nat) (w : World) (h : St W0 R B g s tv (r ++ [x]) op w) (hs : s.size ≤ 3000) (_hi : i < s.size) (hn : i + 1 < s.size) (h32 : bt s (i + 1) = 32) (hk : x.1 ≠ 1) :
    Calls Tryz.prog 32 #[.pointer (some ⟨B, 0, none⟩), .int .i64 i] w fun e w' => e = .returned (.bool false) ∧ w = w' := by
  obtain ⟨n, hn0⟩ : ∃ n, r.length = n := ⟨_, rfl⟩
  have hl1 : (r ++ [x]).length = n + 1 := by simp [hn0]
  have htok := h.tok
  rw [hl1] at htok
  obtain ⟨gt, cap, rfl, hnc, hcm, hg0, hgl, hcs⟩ := own_cells htok (by omega)
  unfold maxLen at hcm
  have ck : w.cell? ⟨gt, n * 3, none⟩ = some (.int .i64 (x.1 : Nat)) := by
    refine hcs _ _ ?_
    rw [List.flatMap_append, List.getElem?_append_right (by rw [flat3]; omega), flat3]
    rw [show n * 3 - r.length * 3 = 0 by omega]
    simp [tk0]
  have y0 : ((n : Int) + 1 == 0) = false := by simp only [beq_eq_false_iff_ne, ne_eq]; omega
  have y1 : (0 : Int) ≤ (n : Int) := by omega
  have y2 : (n : Int) < (n : Int) + 1 := by omega
  have qk : ((x.1 : Int) == 1) = false := by simp only [beq_eq_false_iff_ne, ne_eq]; omega
  have q1 : decide ((i : Int) + 1 < (s.size : Int)) = true := decide_eq_true (by omega)
  have q32 : ((s[i + 1].toNat : Int) != 32) = false := (eq_true (c := 32) hn h32).1
  have c0 := cell_hp h.row 0 _ rfl
  have c1 := cell_hp h.row 1 _ rfl
  clear h h32 hk hn0 hl1 htok hcs
  go_enter Tryz.func32, Tryz.ntmps32
  go_wp2
  go_ret
  exact ⟨rfl, rfl⟩
set_option maxRecDepth 100000 in
set_option maxHeartbeats 1000000 in
theorem prEnds_1 (B : Nat) (txt : ByteArray) (n : Int) (w : World) :
    Calls Tryz.prog 36 #[.pointer (some ⟨B, 0, none⟩), .agg #[.int .i64 1, .int .i64 0, .string txt], .int .i64 n] w fun e w' => e = .returned (.bool true) ∧ Below w.heap.size w w' := by
  go_enter Tryz.func36, Tryz.ntmps36
  go_wp2
  go_ret
  exact ⟨rfl, (Below.refl _ _).alloc (Nat.le_refl _) _⟩
set_option maxRecDepth 100000 in
set_option maxHeartbeats 1000000 in
theorem prEnds_2 (B : Nat) (txt : ByteArray) (n : Int) (w : World) :
    Calls Tryz.prog 36 #[.pointer (some ⟨B, 0, none⟩), .agg #[.int .i64 2, .int .i64 0, .string txt], .int .i64 n] w fun e w' => e = .returned (.bool true) ∧ Below w.heap.size w w' := by
  go_enter Tryz.func36, Tryz.ntmps36
  go_wp2
  go_ret
  exact ⟨rfl, (Below.refl _ _).alloc (Nat.le_refl _) _⟩
set_option maxRecDepth 100000 in
set_option maxHeartbeats 1000000 in
theorem prEnds_3 (B : Nat) (txt : ByteArray) (n : Int) (w : World) :
    Calls Tryz.prog 36 #[.pointer (some ⟨B, 0, none⟩), .agg #[.int .i64 3, .int .i64 0, .string txt], .int .i64 n] w fun e w' => e = .returned (.bool true) ∧ Below w.heap.size w w' := by
  go_enter Tryz.func36, Tryz.ntmps36
  go_wp2
  go_ret
  exact ⟨rfl, (Below.refl _ _).alloc (Nat.le_refl _) _⟩
set_option maxRecDepth 100000 in
set_option maxHeartbeats 1000000 in
theorem prEnds_4 (B : Nat) (txt : ByteArray) (n : Int) (w : World) :
    Calls Tryz.prog 36 #[.pointer (some ⟨B, 0, none⟩), .agg #[.int .i64 4, .int .i64 0, .string txt], .int .i64 n] w fun e w' => e = .returned (.bool true) ∧ Below w.heap.size w w' := by
  go_enter Tryz.func36, Tryz.ntmps36
  go_wp2
  go_ret
  exact ⟨rfl, (Below.refl _ _).alloc (Nat.le_refl _) _⟩
set_option maxRecDepth 100000 in
set_option maxHeartbeats 1000000 in
theorem prEnds_6 (B : Nat) (txt : ByteArray) (n : Int) (w : World) :
    Calls Tryz.prog 36 #[.pointer (some ⟨B, 0, none⟩), .agg #[.int .i64 6, .int .i64 0, .string txt], .int .i64 n] w fun e w' => e = .returned (.bool true) ∧ Below w.heap.size w w' := by
  go_enter Tryz.func36, Tryz.ntmps36
  go_wp2
  go_ret
  exact ⟨rfl, (Below.refl _ _).alloc (Nat.le_refl _) _⟩
set_option maxRecDepth 100000 in
set_option maxHeartbeats 1000000 in
theorem prEnds_11 (B : Nat) (txt : ByteArray) (n : Int) (w : World) :
    Calls Tryz.prog 36 #[.pointer (some ⟨B, 0, none⟩), .agg #[.int .i64 11, .int .i64 0, .string txt], .int .i64 n] w fun e w' => e = .returned (.bool true) ∧ Below w.heap.size w w' := by
  go_enter Tryz.func36, Tryz.ntmps36
  go_wp2
  go_ret
  exact ⟨rfl, (Below.refl _ _).alloc (Nat.le_refl _) _⟩
set_option maxRecDepth 100000 in
set_option maxHeartbeats 2000000 in
theorem prEnds_e {W0 : World} {R B g : Nat} {s : ByteArray} {tv : Value} {toks : List Tk} {op : List UInt8} (k : Nat) (txt : ByteArray) (n : Nat) (w : World) (h : St W0 R B g s tv toks op w) (_hs : s.size ≤ 3000) (fl : Bool) (_hfl : (!op.isEmpty) = fl) (hk : k = 5 ∨ k = 7 ∨ k = 8 ∨ k = 9 ∨ k = 10 ∨ k = 12 ∨ k = 13) (he : n = s.size) :
    Calls Tryz.prog 36 #[.pointer (some ⟨B, 0, none⟩), .agg #[.int .i64 (k : Nat), .int .i64 0, .string txt], .int .i64 n] w fun e w' => e = .returned (.bool true) ∧ Below w.heap.size w w' := by
  have c0 := cell_hp h.row 0 _ rfl
  have hBl := hlt_of h.row
  have hBm : ¬ B = w.heap.size := by omega
  have q1 : ((k : Int) == 1) = false := by simp only [beq_eq_false_iff_ne, ne_eq]; omega
  have q2 : ((k : Int) == 2) = false := by simp only [beq_eq_false_iff_ne, ne_eq]; omega
  have q3 : ((k : Int) == 3) = false := by simp only [beq_eq_false_iff_ne, ne_eq]; omega
  have q4 : ((k : Int) == 4) = false := by simp only [beq_eq_false_iff_ne, ne_eq]; omega
  have q6 : ((k : Int) == 6) = false := by simp only [beq_eq_false_iff_ne, ne_eq]; omega
  have q11 : ((k : Int) == 11) = false := by simp only [beq_eq_false_iff_ne, ne_eq]; omega
  have x0 : ((n : Int) == (s.size : Int)) = true := by simp [he]
  clear he
  clear h
  clear hk
  go_enter Tryz.func36, Tryz.ntmps36
  go_wp2
  go_ret
  exact ⟨rfl, (Below.refl _ _).alloc (Nat.le_refl _) _⟩
set_option maxRecDepth 100000 in
set_option maxHeartbeats 2000000 in
theorem prEnds_b {W0 : World} {R B g : Nat} {s : ByteArray} {tv : Value} {toks : List Tk} {op : List UInt8} (k : Nat) (txt : ByteArray) (n : Nat) (w : World) (h : St W0 R B g s tv toks op w) (_hs : s.size ≤ 3000) (fl : Bool) (_hfl : (!op.isEmpty) = fl) (hk : k = 5 ∨ k = 7 ∨ k = 8 ∨ k = 9 ∨ k = 10 ∨ k = 12 ∨ k = 13) (hl : n < s.size) (h32 : bt s n = 32) :
    Calls Tryz.prog 36 #[.pointer (some ⟨B, 0, none⟩), .agg #[.int .i64 (k : Nat), .int .i64 0, .string txt], .int .i64 n] w fun e w' => e = .returned (.bool true) ∧ Below w.heap.size w w' := by
  have c0 := cell_hp h.row 0 _ rfl
  have hBl := hlt_of h.row
  have hBm : ¬ B = w.heap.size := by omega
  have q1 : ((k : Int) == 1) = false := by simp only [beq_eq_false_iff_ne, ne_eq]; omega
  have q2 : ((k : Int) == 2) = false := by simp only [beq_eq_false_iff_ne, ne_eq]; omega
  have q3 : ((k : Int) == 3) = false := by simp only [beq_eq_false_iff_ne, ne_eq]; omega
  have q4 : ((k : Int) == 4) = false := by simp only [beq_eq_false_iff_ne, ne_eq]; omega
  have q6 : ((k : Int) == 6) = false := by simp only [beq_eq_false_iff_ne, ne_eq]; omega
  have q11 : ((k : Int) == 11) = false := by simp only [beq_eq_false_iff_ne, ne_eq]; omega
  have x0 : ((n : Int) == (s.size : Int)) = false := by simp only [beq_eq_false_iff_ne, ne_eq]; omega
  have x1 : ((s[n].toNat : Int) == 32) = true := (eq_true (c := 32) hl h32).2
  clear h32
  clear h
  clear hk
  go_enter Tryz.func36, Tryz.ntmps36
  go_wp2
  go_ret
  exact ⟨rfl, (Below.refl _ _).alloc (Nat.le_refl _) _⟩
set_option maxRecDepth 100000 in
set_option maxHeartbeats 2000000 in
theorem prEnds_p {W0 : World} {R B g : Nat} {s : ByteArray} {tv : Value} {toks : List Tk} {op : List UInt8} (k : Nat) (txt : ByteArray) (n : Nat) (w : World) (h : St W0 R B g s tv toks op w) (hs : s.size ≤ 3000) (fl : Bool) (hfl : (!op.isEmpty) = fl) (hk : k = 5 ∨ k = 7 ∨ k = 8 ∨ k = 9 ∨ k = 10 ∨ k = 12 ∨ k = 13) (hl : n < s.size) (h32 : bt s n ≠ 32) (hp : partsB s n fl = true) :
    Calls Tryz.prog 36 #[.pointer (some ⟨B, 0, none⟩), .agg #[.int .i64 (k : Nat), .int .i64 0, .string txt], .int .i64 n] w fun e w' => e = .returned (.bool true) ∧ Below w.heap.size w w' := by
  have c0 := cell_hp h.row 0 _ rfl
  have hBl := hlt_of h.row
  have hBm : ¬ B = w.heap.size := by omega
  have q1 : ((k : Int) == 1) = false := by simp only [beq_eq_false_iff_ne, ne_eq]; omega
  have q2 : ((k : Int) == 2) = false := by simp only [beq_eq_false_iff_ne, ne_eq]; omega
  have q3 : ((k : Int) == 3) = false := by simp only [beq_eq_false_iff_ne, ne_eq]; omega
  have q4 : ((k : Int) == 4) = false := by simp only [beq_eq_false_iff_ne, ne_eq]; omega
  have q6 : ((k : Int) == 6) = false := by simp only [beq_eq_false_iff_ne, ne_eq]; omega
  have q11 : ((k : Int) == 11) = false := by simp only [beq_eq_false_iff_ne, ne_eq]; omega
  have x0 : ((n : Int) == (s.size : Int)) = false := by simp only [beq_eq_false_iff_ne, ne_eq]; omega
  have x1 : ((s[n].toNat : Int) == 32) = false := (ne_true (c := 32) hl h32).2
  clear h32
  have hPq := fun w => (parts_any s n fl w hl (by omega)).mono (fun _ _ h => (⟨h.1, h.2.symm⟩ : _ ∧ _))
  rw [hp] at hPq
  have hFq : ∀ m, Calls Tryz.prog 34 #[.pointer (some ⟨B, 0, none⟩)] ((w.alloc (.cells #[.int .i64 (k : Nat), .int .i64 0, .string txt] 38)).drewN m) fun e w' => e = .returned (.bool fl) ∧ w' = (w.alloc (.cells #[.int .i64 (k : Nat), .int .i64 0, .string txt] 38)).drewN m := fun m => (prFlow_any _ (h.below (bel_drewN ((Below.refl _ _).alloc (Nat.le_refl _) _) m)) fl hfl).mono (fun _ _ h => ⟨h.1, h.2.symm⟩)
  clear hp h hfl
  clear hk
  go_enter Tryz.func36, Tryz.ntmps36
  go_wp2
  go_quiet ((first | (go_at_call 34; exact Calls.quiet_of_same (hFq _)) | (go_at_call 33; exact Calls.quiet_of_same (hPq _))))
  clear hPq hFq
  go_wp2
  go_ret
  exact ⟨rfl, bel_drewN ((Below.refl _ _).alloc (Nat.le_refl _) _) nq⟩
set_option maxRecDepth 100000 in
set_option maxHeartbeats 2000000 in
theorem prEnds_f {W0 : World} {R B g : Nat} {s : ByteArray} {tv : Value} {toks : List Tk} {op : List UInt8} (k : Nat) (txt : ByteArray) (n : Nat) (w : World) (h : St W0 R B g s tv toks op w) (hs : s.size ≤ 3000) (fl : Bool) (hfl : (!op.isEmpty) = fl) (hk : k = 5 ∨ k = 7 ∨ k = 8 ∨ k = 9 ∨ k = 10 ∨ k = 12 ∨ k = 13) (hl : n < s.size) (h32 : bt s n ≠ 32) (hp : partsB s n fl = false) (hf : fl = false) :
    Calls Tryz.prog 36 #[.pointer (some ⟨B, 0, none⟩), .agg #[.int .i64 (k : Nat), .int .i64 0, .string txt], .int .i64 n] w fun e w' => e = .returned (.bool false) ∧ Below w.heap.size w w' := by
  have c0 := cell_hp h.row 0 _ rfl
  have hBl := hlt_of h.row
  have hBm : ¬ B = w.heap.size := by omega
  have q1 : ((k : Int) == 1) = false := by simp only [beq_eq_false_iff_ne, ne_eq]; omega
  have q2 : ((k : Int) == 2) = false := by simp only [beq_eq_false_iff_ne, ne_eq]; omega
  have q3 : ((k : Int) == 3) = false := by simp only [beq_eq_false_iff_ne, ne_eq]; omega
  have q4 : ((k : Int) == 4) = false := by simp only [beq_eq_false_iff_ne, ne_eq]; omega
  have q6 : ((k : Int) == 6) = false := by simp only [beq_eq_false_iff_ne, ne_eq]; omega
  have q11 : ((k : Int) == 11) = false := by simp only [beq_eq_false_iff_ne, ne_eq]; omega
  have x0 : ((n : Int) == (s.size : Int)) = false := by simp only [beq_eq_false_iff_ne, ne_eq]; omega
  have x1 : ((s[n].toNat : Int) == 32) = false := (ne_true (c := 32) hl h32).2
  clear h32
  have hPq := fun w => (parts_any s n fl w hl (by omega)).mono (fun _ _ h => (⟨h.1, h.2.symm⟩ : _ ∧ _))
  rw [hp] at hPq
  have hFq : ∀ m, Calls Tryz.prog 34 #[.pointer (some ⟨B, 0, none⟩)] ((w.alloc (.cells #[.int .i64 (k : Nat), .int .i64 0, .string txt] 38)).drewN m) fun e w' => e = .returned (.bool fl) ∧ w' = (w.alloc (.cells #[.int .i64 (k : Nat), .int .i64 0, .string txt] 38)).drewN m := fun m => (prFlow_any _ (h.below (bel_drewN ((Below.refl _ _).alloc (Nat.le_refl _) _) m)) fl hfl).mono (fun _ _ h => ⟨h.1, h.2.symm⟩)
  subst hf
  clear hp h hfl
  clear hk
  go_enter Tryz.func36, Tryz.ntmps36
  go_wp2
  go_quiet ((first | (go_at_call 34; exact Calls.quiet_of_same (hFq _)) | (go_at_call 33; exact Calls.quiet_of_same (hPq _))))
  clear hPq hFq
  go_wp2
  go_ret
  exact ⟨rfl, bel_drewN ((Below.refl _ _).alloc (Nat.le_refl _) _) nq⟩
set_option maxRecDepth 100000 in
set_option maxHeartbeats 2000000 in
theorem prEnds_t {W0 : World} {R B g : Nat} {s : ByteArray} {tv : Value} {toks : List Tk} {op : List UInt8} (k : Nat) (txt : ByteArray) (n : Nat) (w : World) (h : St W0 R B g s tv toks op w) (hs : s.size ≤ 3000) (fl : Bool) (hfl : (!op.isEmpty) = fl) (hk : k = 5 ∨ k = 7 ∨ k = 8 ∨ k = 9 ∨ k = 10 ∨ k = 12 ∨ k = 13) (hl : n < s.size) (h32 : bt s n ≠ 32) (hp : partsB s n fl = false) (hf : fl = true) :
    Calls Tryz.prog 36 #[.pointer (some ⟨B, 0, none⟩), .agg #[.int .i64 (k : Nat), .int .i64 0, .string txt], .int .i64 n] w fun e w' => e = .returned (.bool (flowB (bt s n))) ∧ Below w.heap.size w w' := by
  have c0 := cell_hp h.row 0 _ rfl
  have hBl := hlt_of h.row
  have hBm : ¬ B = w.heap.size := by omega
  have q1 : ((k : Int) == 1) = false := by simp only [beq_eq_false_iff_ne, ne_eq]; omega
  have q2 : ((k : Int) == 2) = false := by simp only [beq_eq_false_iff_ne, ne_eq]; omega
  have q3 : ((k : Int) == 3) = false := by simp only [beq_eq_false_iff_ne, ne_eq]; omega
  have q4 : ((k : Int) == 4) = false := by simp only [beq_eq_false_iff_ne, ne_eq]; omega
  have q6 : ((k : Int) == 6) = false := by simp only [beq_eq_false_iff_ne, ne_eq]; omega
  have q11 : ((k : Int) == 11) = false := by simp only [beq_eq_false_iff_ne, ne_eq]; omega
  have x0 : ((n : Int) == (s.size : Int)) = false := by simp only [beq_eq_false_iff_ne, ne_eq]; omega
  have x1 : ((s[n].toNat : Int) == 32) = false := (ne_true (c := 32) hl h32).2
  clear h32
  have hPq := fun w => (parts_any s n fl w hl (by omega)).mono (fun _ _ h => (⟨h.1, h.2.symm⟩ : _ ∧ _))
  rw [hp] at hPq
  have hFq : ∀ m, Calls Tryz.prog 34 #[.pointer (some ⟨B, 0, none⟩)] ((w.alloc (.cells #[.int .i64 (k : Nat), .int .i64 0, .string txt] 38)).drewN m) fun e w' => e = .returned (.bool fl) ∧ w' = (w.alloc (.cells #[.int .i64 (k : Nat), .int .i64 0, .string txt] 38)).drewN m := fun m => (prFlow_any _ (h.below (bel_drewN ((Below.refl _ _).alloc (Nat.le_refl _) _) m)) fl hfl).mono (fun _ _ h => ⟨h.1, h.2.symm⟩)
  subst hf
  have hFl := fun w => (flow_any (s[n].toNat) w (UInt8.toNat_lt _)).mono (fun _ _ h => (⟨h.1, h.2.symm⟩ : _ ∧ _))
  have HB := Lib.hid (bt_get s n hl)
  clear hp h hfl
  clear hk
  go_enter Tryz.func36, Tryz.ntmps36
  go_wp2
  go_quiet ((first | (go_at_call 34; exact Calls.quiet_of_same (hFq _)) | (go_at_call 33; exact Calls.quiet_of_same (hPq _)) | (go_at_call 72; exact Calls.quiet_of_same (hFl _))))
  clear hPq hFq hFl
  go_wp2
  go_ret
  exact ⟨ret_b (by rw [HB.out]), bel_drewN ((Below.refl _ _).alloc (Nat.le_refl _) _) nq⟩
theorem prEnds_ask {W0 : World} {R B g : Nat} {s : ByteArray} {tv : Value} {toks : List Tk} {op : List UInt8} (k : Nat) (txt : ByteArray) (n : Nat) (w : World) (h : St W0 R B g s tv toks op w) (hs : s.size ≤ 3000) (hk : k = 5 ∨ k = 7 ∨ k = 8 ∨ k = 9 ∨ k = 10 ∨ k = 12 ∨ k = 13) (hn : n ≤ s.size) :
    Calls Tryz.prog 36 #[.pointer (some ⟨B, 0, none⟩), .agg #[.int .i64 (k : Nat), .int .i64 0, .string txt], .int .i64 n] w fun e w' => e = .returned (.bool (tiB s n op)) ∧ Below w.heap.size w w' := by
  by_cases he : n = s.size
  · rw [show tiB s n op = true by unfold tiB; rw [decide_eq_true (.inl he)]; rfl]
    exact prEnds_e k txt n w h hs _ rfl hk he
  have hl : n < s.size := by omega
  by_cases h32 : bt s n = 32
  · rw [show tiB s n op = true by unfold tiB; rw [decide_eq_true (.inr h32)]; rfl]
    exact prEnds_b k txt n w h hs _ rfl hk hl h32
  have hT : tiB s n op = (partsB s n (!op.isEmpty) || (!op.isEmpty && flowB (bt s n))) := by
    unfold tiB; rw [decide_eq_false (fun e => e.elim he h32)]; simp
  rw [hT]
  cases hp : partsB s n (!op.isEmpty) with
  | true => exact prEnds_p k txt n w h hs _ rfl hk hl h32 hp
  | false =>
    cases hf : (!op.isEmpty) with
    | false =>
      rw [hf] at hp
      exact prEnds_f k txt n w h hs _ hf hk hl h32 hp rfl
    | true =>
      rw [hf] at hp
      exact prEnds_t k txt n w h hs _ hf hk hl h32 hp rfl
set_option maxRecDepth 100000 in
set_option maxHeartbeats 2000000 in
theorem prQuoted_er (t : ByteArray) (n : Int) (c p : Nat) (hc : c ≠ 0) (w : World) :
    Calls Tryz.prog 29 #[.string t, .int .i64 n, .agg #[.int .i64 (c : Nat), .int .i64 (p : Nat)]] w fun e w' => e = .returned (.tuple #[.agg #[.int .i64 0, .int .i64 0, .string ⟨#[]⟩], .int .i64 0, .agg #[.int .i64 (c : Nat), .int .i64 (p : Nat)]]) ∧ Below w.heap.size w w' := by
  have qc : ((c : Int) != 0) = true := by simp only [bne_iff_ne, ne_eq]; omega
  go_enter Tryz.func29, Tryz.ntmps29
  go_wp2_with fail
  refine (bad_any _ _ _).mono ?_
  rintro e w1 ⟨rfl, hb⟩
  have hb1 : Below w.heap.size w w1 := ((((Below.refl w.heap.size w).alloc (Nat.le_refl _) (.cells #[.int .i64 (c : Nat), .int .i64 (p : Nat)] 27)).alloc (by simp) (.cells #[.int .i64 0, .int .i64 0, .string ⟨#[]⟩] 38)).alloc (by simp; omega) (.cells #[.int .i64 0, .int .i64 0] 27)).trans (hb.mono (by simp; omega))
  have hx0 : w1.heap[w.heap.size]? = some (.cells #[.int .i64 (c : Nat), .int .i64 (p : Nat)] 27) := by
    rw [hb.block (w.heap.size) (by simp; omega)]
    rw [Lib.alloc_old _ _ _ (by simp; omega), Lib.alloc_old _ _ _ (by simp)]
    exact heap_alloc_new w _
  have hx1 : w1.heap[w.heap.size + 1]? = some (.cells #[.int .i64 0, .int .i64 0, .string ⟨#[]⟩] 38) := by
    rw [hb.block (w.heap.size + 1) (by simp)]
    rw [Lib.alloc_old _ _ _ (by simp)]
    have := heap_alloc_new (w.alloc (.cells #[.int .i64 (c : Nat), .int .i64 (p : Nat)] 27)) (.cells #[.int .i64 0, .int .i64 0, .string ⟨#[]⟩] 38)
    simpa using this
  have hx2 : w1.heap[w.heap.size + 1 + 1]? = some (.cells #[.int .i64 0, .int .i64 0] 27) := by
    rw [hb.block (w.heap.size + 1 + 1) (by simp)]
    have := heap_alloc_new ((w.alloc (.cells #[.int .i64 (c : Nat), .int .i64 (p : Nat)] 27)).alloc (.cells #[.int .i64 0, .int .i64 0, .string ⟨#[]⟩] 38)) (.cells #[.int .i64 0, .int .i64 0] 27)
    simpa using this
  have g0 := cell_hp hx0 0 _ rfl
  have g1 := cell_hp hx0 1 _ rfl
  have a0 := cell_hp hx1 0 _ rfl
  have e0 := free_hp hx1 0
  have a1 := cell_hp hx1 1 _ rfl
  have e1 := free_hp hx1 1
  have a2 := cell_hp hx1 2 _ rfl
  have e2 := free_hp hx1 2
  have d0 := cell_hp hx2 0 _ rfl
  have f0 := free_hp hx2 0
  have d1 := cell_hp hx2 1 _ rfl
  have f1 := free_hp hx2 1
  clear hb hx0 hx1 hx2 hc
  go_wp2
  go_region
  all_goals
    go_wp2
    refine bodyPost_ret (v := .tuple #[.agg #[.int .i64 0, .int .i64 0, .string ⟨#[]⟩], .int .i64 0, .agg #[.int .i64 (c : Nat), .int .i64 (p : Nat)]]) (by simp [results, Tryz.results29, go_sem, a0, a1, a2, d0, d1]) rfl ⟨rfl, ?_⟩
    first
      | exact (((((hb1.setCell (p := ⟨w.heap.size + 1, 0, none⟩) (by simp) _).setCell (p := ⟨w.heap.size + 1, 1, none⟩) (by simp) _).setCell (p := ⟨w.heap.size + 1, 2, none⟩) (by simp) _).setCell (p := ⟨w.heap.size + 1 + 1, 0, none⟩) (by simp; omega) _).setCell (p := ⟨w.heap.size + 1 + 1, 1, none⟩) (by simp; omega) _).drew
      | exact (((((hb1.setCell (p := ⟨w.heap.size + 1 + 1, 0, none⟩) (by simp; omega) _).setCell (p := ⟨w.heap.size + 1 + 1, 1, none⟩) (by simp; omega) _).setCell (p := ⟨w.heap.size + 1, 0, none⟩) (by simp) _).setCell (p := ⟨w.heap.size + 1, 1, none⟩) (by simp) _).setCell (p := ⟨w.heap.size + 1, 2, none⟩) (by simp) _).drew
end Go.Proofs.YtnnnanemefcmdaaGreatDoor
