/- The walks of the program's closed (layer 7). -/
import Derived.Test.YtnnnanemefcmdaaGreatDoorZL1c
import Derived.Deep.RegionHeld3
namespace Go.Proofs.YtnnnanemefcmdaaGreatDoor
open Go.RowKit
set_option maxRecDepth 100000 in
set_option maxHeartbeats 2000000 in
theorem prClosed_no {W0 : World} {R B g : Nat} {s : ByteArray} {tv : Value} {toks : List Tk} {r : List UInt8} {c : UInt8} (i : Nat) (w : World) (h : St W0 R B g s tv toks (r ++ [c]) w) (hs : s.size ≤ 3000) (hi : i < s.size) (hd : c.toNat ≠ bt s i) :
    Calls Tryz.prog 66 #[.pointer (some ⟨B, 0, none⟩), .int .i64 i] w fun e w' => e = .returned (.tuple #[.agg #[.int .i64 0, .int .i64 0, .string ⟨#[]⟩], .agg #[.int .i64 3, .int .i64 i]]) ∧ Below w.heap.size w w' := by
  obtain ⟨n, hn⟩ : ∃ n, r.length = n := ⟨_, rfl⟩
  have hl1 : (r ++ [c]).length = n + 1 := by simp [hn]
  have c0 := cell_hp h.row 0 _ rfl
  have c2 := cell_hp h.row 2 _ rfl
  have f2 := free_hp h.row 2
  have hBl := hlt_of h.row
  have hBm : ¬ B = w.heap.size := by omega
  have hgl := h.lows.g
  have hgB : ¬ g = w.heap.size := by omega
  have hnr : n < s.size := by
    rcases h.opn.2 with ⟨h0, _⟩ | ⟨_, _, _, hv, _, _, hx, _⟩
    · cases h0
    · cases hv; rw [hl1] at hx; omega
  have cg : w.cell? ⟨g, n, none⟩ = some (.int .u8 (c.toNat : Nat)) := by
    have := World.ownsRow.cells h.opn (g := g) rfl n (byV c) (by rw [List.map_append, List.getElem?_append_right (by simp [hn])]; simp [hn])
    rwa [show (⟨g, 0, none⟩ : Addr).add n = ⟨g, n, none⟩ by simp [Addr.add, eq_comm]] at this
  rw [hl1] at c2
  have hbi := bt_get s i hi
  have x1 : (0 : Int) ≤ (n : Int) := by omega
  have x2 : (n : Int) ≤ (s.size : Int) := by omega
  have x3 : (n : Int) < (n : Int) + 1 := by omega
  have qd : ((s[i].toNat : Int) != (c.toNat : Int)) = true := by simp only [bne_iff_ne, ne_eq]; omega
  have H := Lib.hid h
  have HN := Lib.hid hn
  clear h hd hl1 hn hbi
  go_enter Tryz.func66, Tryz.ntmps66
  go_wp2_with fail
  refine (prSyntax_any i _).mono ?_
  rintro e w1 ⟨rfl, hb⟩
  obtain ⟨hb1, hx1, hx2⟩ := res2 hb (by simp)
  have a0 := cell_hp hx1 0 _ rfl
  have e0 := free_hp hx1 0
  have a1 := cell_hp hx1 1 _ rfl
  have e1 := free_hp hx1 1
  have a2 := cell_hp hx1 2 _ rfl
  have e2 := free_hp hx1 2
  have d0 := cell_hp hx2 0 _ rfl
  have f0 := free_hp hx2 0
  have d1 := cell_hp hx2 1 _ rfl
  have f1 := free_hp hx2 1
  clear hb hx1 hx2 c0 c2 cg f2
  go_wp2
  refine bodyPost_ret (v := .tuple #[.agg #[.int .i64 0, .int .i64 0, .string ⟨#[]⟩], .agg #[.int .i64 3, .int .i64 i]]) (by simp [results, Tryz.results66, go_sem, a0, a1, a2, d0, d1]) rfl ⟨rfl, ?_⟩
  exact ((((hb1.setCell (p := ⟨w.heap.size, 0, none⟩) (Nat.le_refl _) _).setCell (p := ⟨w.heap.size, 1, none⟩) (Nat.le_refl _) _).setCell (p := ⟨w.heap.size, 2, none⟩) (Nat.le_refl _) _).setCell (p := ⟨w.heap.size + 1, 0, none⟩) (Nat.le_succ _) _).setCell (p := ⟨w.heap.size + 1, 1, none⟩) (Nat.le_succ _) _
set_option maxRecDepth 100000 in
set_option maxHeartbeats 2000000 in
theorem prClosed_sq {W0 : World} {R B g : Nat} {s : ByteArray} {tv : Value} {toks : List Tk} {r : List UInt8} {c : UInt8} (i : Nat) (w : World) (h : St W0 R B g s tv toks (r ++ [c]) w) (hs : s.size ≤ 3000) (hi : i < s.size) (hd : c.toNat = bt s i) (hc : bt s i = 93) :
    Calls Tryz.prog 66 #[.pointer (some ⟨B, 0, none⟩), .int .i64 i] w fun e w' => e = .returned (.tuple #[.agg #[.int .i64 5, .int .i64 0, .string ⟨#[]⟩], .agg #[.int .i64 0, .int .i64 0]]) ∧ St W0 R B g s tv toks r w' ∧ Kept B g w w' := by
  obtain ⟨n, hn⟩ : ∃ n, r.length = n := ⟨_, rfl⟩
  have hl1 : (r ++ [c]).length = n + 1 := by simp [hn]
  have c0 := cell_hp h.row 0 _ rfl
  have c2 := cell_hp h.row 2 _ rfl
  have f2 := free_hp h.row 2
  have hBl := hlt_of h.row
  have hBm : ¬ B = w.heap.size := by omega
  have hgl := h.lows.g
  have hgB : ¬ g = w.heap.size := by omega
  have hnr : n < s.size := by
    rcases h.opn.2 with ⟨h0, _⟩ | ⟨_, _, _, hv, _, _, hx, _⟩
    · cases h0
    · cases hv; rw [hl1] at hx; omega
  have cg : w.cell? ⟨g, n, none⟩ = some (.int .u8 (c.toNat : Nat)) := by
    have := World.ownsRow.cells h.opn (g := g) rfl n (byV c) (by rw [List.map_append, List.getElem?_append_right (by simp [hn])]; simp [hn])
    rwa [show (⟨g, 0, none⟩ : Addr).add n = ⟨g, n, none⟩ by simp [Addr.add, eq_comm]] at this
  rw [hl1] at c2
  have hbi := bt_get s i hi
  have x1 : (0 : Int) ≤ (n : Int) := by omega
  have x2 : (n : Int) ≤ (s.size : Int) := by omega
  have x3 : (n : Int) < (n : Int) + 1 := by omega
  have qd : ((s[i].toNat : Int) != (c.toNat : Int)) = false := by simp only [bne_eq_false_iff_eq]; omega
  have q93 : ((c.toNat : Int) == 93) = true := by simp only [beq_iff_eq]; omega
  have H := Lib.hid h
  have HN := Lib.hid hn
  clear h hd hc hl1 hn hbi
  go_enter Tryz.func66, Tryz.ntmps66
  go_wp2
  go_region
  have hp : St W0 R B g s tv toks r (w.setCell ⟨B, 2, none⟩ (.slice (some ⟨g, 0, none⟩) n s.size)) := by
    have := H.out.pop
    rwa [HN.out] at this
  have HP := Lib.hid hp
  clear hp
  go_wp2
  refine bodyPost_ret (v := .tuple #[.agg #[.int .i64 5, .int .i64 0, .string ⟨#[]⟩], .agg #[.int .i64 0, .int .i64 0]]) (by simp [results, Tryz.results66, go_sem]) rfl ⟨rfl, ?_⟩
  have hd := ((((Below.refl _ (w.setCell ⟨B, 2, none⟩ (.slice (some ⟨g, 0, none⟩) n s.size))).alloc (Nat.le_refl _) (.cells #[.int .i64 5, .int .i64 0, .string ⟨#[]⟩] 38)).alloc (by simp) (.cells #[.int .i64 0, .int .i64 0] 27)).drew)
  exact ⟨HP.out.below hd, ((Kept.of_below (Below.refl _ w)).setB 2 _).trans (Kept.of_below hd)⟩
set_option maxRecDepth 100000 in
set_option maxHeartbeats 2000000 in
theorem prClosed_mp {W0 : World} {R B g : Nat} {s : ByteArray} {tv : Value} {toks : List Tk} {r : List UInt8} {c : UInt8} (i : Nat) (w : World) (h : St W0 R B g s tv toks (r ++ [c]) w) (hs : s.size ≤ 3000) (hi : i < s.size) (hd : c.toNat = bt s i) (hc : bt s i = 125) :
    Calls Tryz.prog 66 #[.pointer (some ⟨B, 0, none⟩), .int .i64 i] w fun e w' => e = .returned (.tuple #[.agg #[.int .i64 7, .int .i64 0, .string ⟨#[]⟩], .agg #[.int .i64 0, .int .i64 0]]) ∧ St W0 R B g s tv toks r w' ∧ Kept B g w w' := by
  obtain ⟨n, hn⟩ : ∃ n, r.length = n := ⟨_, rfl⟩
  have hl1 : (r ++ [c]).length = n + 1 := by simp [hn]
  have c0 := cell_hp h.row 0 _ rfl
  have c2 := cell_hp h.row 2 _ rfl
  have f2 := free_hp h.row 2
  have hBl := hlt_of h.row
  have hBm : ¬ B = w.heap.size := by omega
  have hgl := h.lows.g
  have hgB : ¬ g = w.heap.size := by omega
  have hnr : n < s.size := by
    rcases h.opn.2 with ⟨h0, _⟩ | ⟨_, _, _, hv, _, _, hx, _⟩
    · cases h0
    · cases hv; rw [hl1] at hx; omega
  have cg : w.cell? ⟨g, n, none⟩ = some (.int .u8 (c.toNat : Nat)) := by
    have := World.ownsRow.cells h.opn (g := g) rfl n (byV c) (by rw [List.map_append, List.getElem?_append_right (by simp [hn])]; simp [hn])
    rwa [show (⟨g, 0, none⟩ : Addr).add n = ⟨g, n, none⟩ by simp [Addr.add, eq_comm]] at this
  rw [hl1] at c2
  have hbi := bt_get s i hi
  have x1 : (0 : Int) ≤ (n : Int) := by omega
  have x2 : (n : Int) ≤ (s.size : Int) := by omega
  have x3 : (n : Int) < (n : Int) + 1 := by omega
  have qd : ((s[i].toNat : Int) != (c.toNat : Int)) = false := by simp only [bne_eq_false_iff_eq]; omega
  have q93 : ((c.toNat : Int) == 93) = false := by simp only [beq_eq_false_iff_ne, ne_eq]; omega
  have H := Lib.hid h
  have HN := Lib.hid hn
  clear h hd hc hl1 hn hbi
  go_enter Tryz.func66, Tryz.ntmps66
  go_wp2
  go_region
  have hp : St W0 R B g s tv toks r (w.setCell ⟨B, 2, none⟩ (.slice (some ⟨g, 0, none⟩) n s.size)) := by
    have := H.out.pop
    rwa [HN.out] at this
  have HP := Lib.hid hp
  clear hp
  go_wp2
  refine bodyPost_ret (v := .tuple #[.agg #[.int .i64 7, .int .i64 0, .string ⟨#[]⟩], .agg #[.int .i64 0, .int .i64 0]]) (by simp [results, Tryz.results66, go_sem]) rfl ⟨rfl, ?_⟩
  have hd := ((((Below.refl _ (w.setCell ⟨B, 2, none⟩ (.slice (some ⟨g, 0, none⟩) n s.size))).alloc (Nat.le_refl _) (.cells #[.int .i64 7, .int .i64 0, .string ⟨#[]⟩] 38)).alloc (by simp) (.cells #[.int .i64 0, .int .i64 0] 27)).drew)
  exact ⟨HP.out.below hd, ((Kept.of_below (Below.refl _ w)).setB 2 _).trans (Kept.of_below hd)⟩
set_option maxRecDepth 100000 in
set_option maxHeartbeats 2000000 in
theorem prSign_none {W0 : World} {R B g : Nat} {s : ByteArray} {tv : Value} {toks : List Tk}  (i : Nat) (w : World) (h : St W0 R B g s tv toks [] w) (_hs : s.size ≤ 3000) (hi : i < s.size) (h1 : bt s i ≠ 91) (h2 : bt s i ≠ 123) :
    Calls Tryz.prog 27 #[.pointer (some ⟨B, 0, none⟩), .int .i64 i] w fun e w' => e = .returned (.tuple #[.agg #[.int .i64 0, .int .i64 0, .string ⟨#[]⟩], .agg #[.int .i64 3, .int .i64 i]]) ∧ Below w.heap.size w w' := by
  have q91 : ((s[i].toNat : Int) == 91) = false := (ne_true (c := 91) hi h1).2
  have q123 : ((s[i].toNat : Int) == 123) = false := (ne_true (c := 123) hi h2).2
  have c0 := cell_hp h.row 0 _ rfl
  have hBl := hlt_of h.row
  have hF := fun w2 (hb : Below w.heap.size w w2) => prFlow_any w2 (h.below hb) false rfl
  have H := Lib.hid h
  clear h h1 h2
  go_enter Tryz.func27, Tryz.ntmps27
  go_wp2_with fail
  refine (hF _ ?_).mono ?_
  · exact (((Below.refl _ _).alloc (Nat.le_refl _) _).alloc (by simp) _)
  rintro e w' ⟨rfl, rfl⟩
  go_wp2_with fail
  refine (prSyntax_any i _).mono ?_
  rintro e w1 ⟨rfl, hb⟩
  obtain ⟨hb1, hx1, hx2⟩ := res2 hb (by simp)
  have a0 := cell_hp hx1 0 _ rfl
  have e0 := free_hp hx1 0
  have a1 := cell_hp hx1 1 _ rfl
  have e1 := free_hp hx1 1
  have a2 := cell_hp hx1 2 _ rfl
  have e2 := free_hp hx1 2
  have d0 := cell_hp hx2 0 _ rfl
  have f0 := free_hp hx2 0
  have d1 := cell_hp hx2 1 _ rfl
  have f1 := free_hp hx2 1
  clear hb hx1 hx2 c0 hF
  go_wp2
  refine bodyPost_ret (v := .tuple #[.agg #[.int .i64 0, .int .i64 0, .string ⟨#[]⟩], .agg #[.int .i64 3, .int .i64 i]]) (by simp [results, Tryz.results27, go_sem, a0, a1, a2, d0, d1]) rfl ⟨rfl, ?_⟩
  exact ((((hb1.setCell (p := ⟨w.heap.size, 0, none⟩) (Nat.le_refl _) _).setCell (p := ⟨w.heap.size, 1, none⟩) (Nat.le_refl _) _).setCell (p := ⟨w.heap.size, 2, none⟩) (Nat.le_refl _) _).setCell (p := ⟨w.heap.size + 1, 0, none⟩) (Nat.le_succ _) _).setCell (p := ⟨w.heap.size + 1, 1, none⟩) (Nat.le_succ _) _
set_option maxRecDepth 100000 in
set_option maxHeartbeats 2000000 in
theorem prSign_comma {W0 : World} {R B g : Nat} {s : ByteArray} {tv : Value} {toks : List Tk} (b : UInt8) (o : List UInt8) (i : Nat) (w : World) (h : St W0 R B g s tv toks (b :: o) w) (_hs : s.size ≤ 3000) (hi : i < s.size) (hc : bt s i = 44) :
    Calls Tryz.prog 27 #[.pointer (some ⟨B, 0, none⟩), .int .i64 i] w fun e w' => e = .returned (.tuple #[.agg #[.int .i64 3, .int .i64 0, .string ⟨#[]⟩], .agg #[.int .i64 0, .int .i64 0]]) ∧ Below w.heap.size w w' := by
  have q91 : ((s[i].toNat : Int) == 91) = false := (ne_true (c := 91) hi (by omega)).2
  have q123 : ((s[i].toNat : Int) == 123) = false := (ne_true (c := 123) hi (by omega)).2
  have q44 : ((s[i].toNat : Int) == 44) = true := (eq_true (c := 44) hi hc).2
  have c0 := cell_hp h.row 0 _ rfl
  have hBl := hlt_of h.row
  have hF := fun w2 (hb : Below w.heap.size w w2) => prFlow_any w2 (h.below hb) true rfl
  have H := Lib.hid h
  clear h hc
  go_enter Tryz.func27, Tryz.ntmps27
  go_wp2_with fail
  refine (hF _ ?_).mono ?_
  · exact (((Below.refl _ _).alloc (Nat.le_refl _) _).alloc (by simp) _)
  rintro e w' ⟨rfl, rfl⟩
  clear hF
  go_wp2
  refine bodyPost_ret (v := .tuple #[.agg #[.int .i64 3, .int .i64 0, .string ⟨#[]⟩], .agg #[.int .i64 0, .int .i64 0]]) (by simp [results, Tryz.results27, go_sem]) rfl ⟨rfl, ?_⟩
  exact (((Below.refl _ _).alloc (Nat.le_refl _) _).alloc (by simp) _)
set_option maxRecDepth 100000 in
set_option maxHeartbeats 2000000 in
theorem prSign_cbad {W0 : World} {R B g : Nat} {s : ByteArray} {tv : Value} {toks : List Tk} (r : List UInt8) (c : UInt8) (i : Nat) (w : World) (h : St W0 R B g s tv toks (r ++ [c]) w) (hs : s.size ≤ 3000) (hi : i < s.size) (h1 : bt s i ≠ 91) (h2 : bt s i ≠ 123) (h3 : bt s i ≠ 44) (hd : c.toNat ≠ bt s i) :
    Calls Tryz.prog 27 #[.pointer (some ⟨B, 0, none⟩), .int .i64 i] w fun e w' => e = .returned (.tuple #[.agg #[.int .i64 0, .int .i64 0, .string ⟨#[]⟩], .agg #[.int .i64 3, .int .i64 i]]) ∧ Below w.heap.size w w' := by
  have q91 : ((s[i].toNat : Int) == 91) = false := (ne_true (c := 91) hi h1).2
  have q123 : ((s[i].toNat : Int) == 123) = false := (ne_true (c := 123) hi h2).2
  have q44 : ((s[i].toNat : Int) == 44) = false := (ne_true (c := 44) hi h3).2
  have c0 := cell_hp h.row 0 _ rfl
  have hBl := hlt_of h.row
  have hF := fun w2 (hb : Below w.heap.size w w2) => prFlow_any w2 (h.below hb) true (by simp)
  have hC := fun w2 (hb : Below w.heap.size w w2) => prClosed_no i w2 (h.below hb) hs hi hd
  have H := Lib.hid h
  clear h h1 h2 h3 hd
  go_enter Tryz.func27, Tryz.ntmps27
  go_wp2_with fail
  refine (hF _ ?_).mono ?_
  · exact (((Below.refl _ _).alloc (Nat.le_refl _) _).alloc (by simp) _)
  rintro e w' ⟨rfl, rfl⟩
  go_wp2_with fail
  refine (hC _ ?_).mono ?_
  · exact (((Below.refl _ _).alloc (Nat.le_refl _) _).alloc (by simp) _)
  rintro e w1 ⟨rfl, hb⟩
  obtain ⟨hb1, hx1, hx2⟩ := res2 hb (by simp)
  have a0 := cell_hp hx1 0 _ rfl
  have e0 := free_hp hx1 0
  have a1 := cell_hp hx1 1 _ rfl
  have e1 := free_hp hx1 1
  have a2 := cell_hp hx1 2 _ rfl
  have e2 := free_hp hx1 2
  have d0 := cell_hp hx2 0 _ rfl
  have f0 := free_hp hx2 0
  have d1 := cell_hp hx2 1 _ rfl
  have f1 := free_hp hx2 1
  clear hb hx1 hx2 c0 hF hC
  go_wp2
  refine bodyPost_ret (v := .tuple #[.agg #[.int .i64 0, .int .i64 0, .string ⟨#[]⟩], .agg #[.int .i64 3, .int .i64 i]]) (by simp [results, Tryz.results27, go_sem, a0, a1, a2, d0, d1]) rfl ⟨rfl, ?_⟩
  exact ((((hb1.setCell (p := ⟨w.heap.size, 0, none⟩) (Nat.le_refl _) _).setCell (p := ⟨w.heap.size, 1, none⟩) (Nat.le_refl _) _).setCell (p := ⟨w.heap.size, 2, none⟩) (Nat.le_refl _) _).setCell (p := ⟨w.heap.size + 1, 0, none⟩) (Nat.le_succ _) _).setCell (p := ⟨w.heap.size + 1, 1, none⟩) (Nat.le_succ _) _
set_option maxRecDepth 100000 in
set_option maxHeartbeats 2000000 in
theorem prSign_csq {W0 : World} {R B g : Nat} {s : ByteArray} {tv : Value} {toks : List Tk} (r : List UInt8) (c : UInt8) (i : Nat) (w : World) (h : St W0 R B g s tv toks (r ++ [c]) w) (hs : s.size ≤ 3000) (hi : i < s.size) (hc : bt s i = 93) (hd : c.toNat = bt s i) :
    Calls Tryz.prog 27 #[.pointer (some ⟨B, 0, none⟩), .int .i64 i] w fun e w' => e = .returned (.tuple #[.agg #[.int .i64 5, .int .i64 0, .string ⟨#[]⟩], .agg #[.int .i64 0, .int .i64 0]]) ∧ St W0 R B g s tv toks r w' ∧ Kept B g w w' := by
  have q91 : ((s[i].toNat : Int) == 91) = false := (ne_true (c := 91) hi (by omega)).2
  have q123 : ((s[i].toNat : Int) == 123) = false := (ne_true (c := 123) hi (by omega)).2
  have q44 : ((s[i].toNat : Int) == 44) = false := (ne_true (c := 44) hi (by omega)).2
  have c0 := cell_hp h.row 0 _ rfl
  have hBl := hlt_of h.row
  have hF := fun w2 (hb : Below w.heap.size w w2) => prFlow_any w2 (h.below hb) true (by simp)
  have hC := fun w2 (hb : Below w.heap.size w w2) => prClosed_sq i w2 (h.below hb) hs hi hd hc
  have H := Lib.hid h
  clear h hc hd
  go_enter Tryz.func27, Tryz.ntmps27
  go_wp2_with fail
  refine (hF _ ?_).mono ?_
  · exact (((Below.refl _ _).alloc (Nat.le_refl _) _).alloc (by simp) _)
  rintro e w' ⟨rfl, rfl⟩
  go_wp2_with fail
  refine (hC _ ?_).mono ?_
  · exact (((Below.refl _ _).alloc (Nat.le_refl _) _).alloc (by simp) _)
  rintro e w1 ⟨rfl, hst, hkp⟩
  have hx1 : w1.heap[w.heap.size]? = some (.cells #[.int .i64 0, .int .i64 0, .string ⟨#[]⟩] 38) := hkp.here H.out (Nat.le_refl _) (by rw [Lib.alloc_old _ _ _ (by simp)]; exact heap_alloc_new w (.cells #[.int .i64 0, .int .i64 0, .string ⟨#[]⟩] 38))
  have hx2 : w1.heap[w.heap.size + 1]? = some (.cells #[.int .i64 0, .int .i64 0] 27) := hkp.here H.out (Nat.le_succ _) (by have := heap_alloc_new (w.alloc (.cells #[.int .i64 0, .int .i64 0, .string ⟨#[]⟩] 38)) (.cells #[.int .i64 0, .int .i64 0] 27); simpa using this)
  have a0 := cell_hp hx1 0 _ rfl
  have e0 := free_hp hx1 0
  have a1 := cell_hp hx1 1 _ rfl
  have e1 := free_hp hx1 1
  have a2 := cell_hp hx1 2 _ rfl
  have e2 := free_hp hx1 2
  have d0 := cell_hp hx2 0 _ rfl
  have f0 := free_hp hx2 0
  have d1 := cell_hp hx2 1 _ rfl
  have f1 := free_hp hx2 1
  have hl := H.out.lows
  have HS := Lib.hid hst
  have HL := Lib.hid hl
  have HK := Lib.hid ((Kept.of_below (B := B) (g := g) (((Below.refl _ w).alloc (Nat.le_refl _) (.cells #[.int .i64 0, .int .i64 0, .string ⟨#[]⟩] 38)).alloc (by simp) (.cells #[.int .i64 0, .int .i64 0] 27))).trans hkp)
  clear hst hkp hl hx1 hx2 hF hC c0
  go_wp2
  refine bodyPost_ret (v := .tuple #[.agg #[.int .i64 5, .int .i64 0, .string ⟨#[]⟩], .agg #[.int .i64 0, .int .i64 0]]) (by simp [results, Tryz.results27, go_sem, a0, a1, a2, d0, d1]) rfl ⟨rfl, ?_⟩
  exact ⟨(((((HS.out.set HL.out (Nat.le_refl _) 0 _).set HL.out (Nat.le_refl _) 1 _).set HL.out (Nat.le_refl _) 2 _).set HL.out (Nat.le_succ _) 0 _).set HL.out (Nat.le_succ _) 1 _), (((((HK.out.set (Nat.le_refl _) 0 _).set (Nat.le_refl _) 1 _).set (Nat.le_refl _) 2 _).set (Nat.le_succ _) 0 _).set (Nat.le_succ _) 1 _)⟩
set_option maxRecDepth 100000 in
set_option maxHeartbeats 2000000 in
theorem prSign_cmp {W0 : World} {R B g : Nat} {s : ByteArray} {tv : Value} {toks : List Tk} (r : List UInt8) (c : UInt8) (i : Nat) (w : World) (h : St W0 R B g s tv toks (r ++ [c]) w) (hs : s.size ≤ 3000) (hi : i < s.size) (hc : bt s i = 125) (hd : c.toNat = bt s i) :
    Calls Tryz.prog 27 #[.pointer (some ⟨B, 0, none⟩), .int .i64 i] w fun e w' => e = .returned (.tuple #[.agg #[.int .i64 7, .int .i64 0, .string ⟨#[]⟩], .agg #[.int .i64 0, .int .i64 0]]) ∧ St W0 R B g s tv toks r w' ∧ Kept B g w w' := by
  have q91 : ((s[i].toNat : Int) == 91) = false := (ne_true (c := 91) hi (by omega)).2
  have q123 : ((s[i].toNat : Int) == 123) = false := (ne_true (c := 123) hi (by omega)).2
  have q44 : ((s[i].toNat : Int) == 44) = false := (ne_true (c := 44) hi (by omega)).2
  have c0 := cell_hp h.row 0 _ rfl
  have hBl := hlt_of h.row
  have hF := fun w2 (hb : Below w.heap.size w w2) => prFlow_any w2 (h.below hb) true (by simp)
  have hC := fun w2 (hb : Below w.heap.size w w2) => prClosed_mp i w2 (h.below hb) hs hi hd hc
  have H := Lib.hid h
  clear h hc hd
  go_enter Tryz.func27, Tryz.ntmps27
  go_wp2_with fail
  refine (hF _ ?_).mono ?_
  · exact (((Below.refl _ _).alloc (Nat.le_refl _) _).alloc (by simp) _)
  rintro e w' ⟨rfl, rfl⟩
  go_wp2_with fail
  refine (hC _ ?_).mono ?_
  · exact (((Below.refl _ _).alloc (Nat.le_refl _) _).alloc (by simp) _)
  rintro e w1 ⟨rfl, hst, hkp⟩
  have hx1 : w1.heap[w.heap.size]? = some (.cells #[.int .i64 0, .int .i64 0, .string ⟨#[]⟩] 38) := hkp.here H.out (Nat.le_refl _) (by rw [Lib.alloc_old _ _ _ (by simp)]; exact heap_alloc_new w (.cells #[.int .i64 0, .int .i64 0, .string ⟨#[]⟩] 38))
  have hx2 : w1.heap[w.heap.size + 1]? = some (.cells #[.int .i64 0, .int .i64 0] 27) := hkp.here H.out (Nat.le_succ _) (by have := heap_alloc_new (w.alloc (.cells #[.int .i64 0, .int .i64 0, .string ⟨#[]⟩] 38)) (.cells #[.int .i64 0, .int .i64 0] 27); simpa using this)
  have a0 := cell_hp hx1 0 _ rfl
  have e0 := free_hp hx1 0
  have a1 := cell_hp hx1 1 _ rfl
  have e1 := free_hp hx1 1
  have a2 := cell_hp hx1 2 _ rfl
  have e2 := free_hp hx1 2
  have d0 := cell_hp hx2 0 _ rfl
  have f0 := free_hp hx2 0
  have d1 := cell_hp hx2 1 _ rfl
  have f1 := free_hp hx2 1
  have hl := H.out.lows
  have HS := Lib.hid hst
  have HL := Lib.hid hl
  have HK := Lib.hid ((Kept.of_below (B := B) (g := g) (((Below.refl _ w).alloc (Nat.le_refl _) (.cells #[.int .i64 0, .int .i64 0, .string ⟨#[]⟩] 38)).alloc (by simp) (.cells #[.int .i64 0, .int .i64 0] 27))).trans hkp)
  clear hst hkp hl hx1 hx2 hF hC c0
  go_wp2
  refine bodyPost_ret (v := .tuple #[.agg #[.int .i64 7, .int .i64 0, .string ⟨#[]⟩], .agg #[.int .i64 0, .int .i64 0]]) (by simp [results, Tryz.results27, go_sem, a0, a1, a2, d0, d1]) rfl ⟨rfl, ?_⟩
  exact ⟨(((((HS.out.set HL.out (Nat.le_refl _) 0 _).set HL.out (Nat.le_refl _) 1 _).set HL.out (Nat.le_refl _) 2 _).set HL.out (Nat.le_succ _) 0 _).set HL.out (Nat.le_succ _) 1 _), (((((HK.out.set (Nat.le_refl _) 0 _).set (Nat.le_refl _) 1 _).set (Nat.le_refl _) 2 _).set (Nat.le_succ _) 0 _).set (Nat.le_succ _) 1 _)⟩
end Go.Proofs.YtnnnanemefcmdaaGreatDoor
