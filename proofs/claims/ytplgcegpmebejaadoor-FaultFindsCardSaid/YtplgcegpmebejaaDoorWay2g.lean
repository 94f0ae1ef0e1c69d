/- The walks of way, end and of the document's Of over a way. -/
import Derived.Test.YtplgcegpmebejaaDoorWords
import Derived.Test.YtplgcegpmebejaaDoorWay1
import Derived.Test.YtplgcegpmebejaaDoorWayMid
import Derived.Deep.RegionHeld3
namespace Go.Proofs.YtplgcegpmebejaaDoor
open Go.RowKit

theorem bel_drewN {B : Nat} {a w : World} (h : Below B a w) (q : Nat) : Below B a (w.drewN q) := ⟨h.os, h.tape, h.output, h.size, h.block⟩
theorem under_q (word : ByteArray) (a : Int) (u : TypeId) (v : Value) (w : World) :
    Calls Tryd.prog 17 #[.string word, .int .i64 a, .iface u v] w fun e w' => e = .returned (.iface 47 (.agg #[.string word, .int .i64 a, .iface u v])) ∧ ∃ n, w' = w.drewN n :=
  (under_any word a u v w).mono fun e w' ⟨h1, h2⟩ => ⟨h1, 0, by rw [← h2]; rfl⟩

theorem RowsAt.keep {g h : Nat} {L : List (ByteArray × Int)} {w w' : World} (H : RowsAt g h L w) (hb : Below w.heap.size w w') : RowsAt g h L w' := by
  obtain ⟨h1, h2, h3⟩ := H
  have := hb.size
  refine ⟨by omega, by omega, fun k s hk => ?_⟩
  obtain ⟨c1, c2⟩ := h3 k s hk
  exact ⟨by rw [hb.cell (p := ⟨g, k, none⟩) h1]; exact c1, by rw [hb.cell (p := ⟨h, k, none⟩) h2]; exact c2⟩

theorem wv_drop (X : Value) (L : List (ByteArray × Int)) (j : Nat) (s : ByteArray × Int) (h : L[j]? = some s) : wv X (L.drop j) = .iface 47 (.agg #[.string s.1, .int .i64 s.2, wv X (L.drop (j + 1))]) := by
  obtain ⟨hj, rfl⟩ := List.getElem?_eq_some_iff.1 h
  rw [List.drop_eq_getElem_cons hj, wv]
theorem wv_iface (X : Value) (hX : ∃ u v, X = .iface u v) (L : List (ByteArray × Int)) : ∃ u v, wv X L = .iface u v := by
  cases L with
  | nil => simpa [wv] using hX
  | cons s l => exact ⟨_, _, rfl⟩

set_option maxRecDepth 100000 in
set_option maxHeartbeats 4000000 in
theorem way_1 (r r' : Option Addr) (g h c c' : Nat) (n : Nat) (cd a : Int) (L : List (ByteArray × Int)) (hL : L.length = n) (hr : n = 0 ∨ r = some ⟨g, 0, none⟩ ∧ r' = some ⟨h, 0, none⟩) (hn1 : n ≤ 1000) (w : World) (hR : 0 < n → RowsAt g h L w) :
    Calls Tryd.prog 12 #[.agg #[.slice r n c, .slice r' n c', .int .i64 1, .int .i64 cd, .int .i64 a]] w fun e w' => e = .returned (wv (faultV cd a) L) ∧ Below w.heap.size w w' := by
  have HR := Lib.hid hR
  have HL := Lib.hid hL
  have HRR := Lib.hid hr
  have HX : ∃ u v, (faultV cd a) = .iface u v := ⟨_, _, rfl⟩
  clear hR hL hr
  go_enter Tryd.func12, Tryd.ntmps12
  go_wp2_with fail
  refine (end_1 _ _ _ _ _ _ _ _ _).mono ?_
  rintro e w1 ⟨rfl, hb⟩
  have q0 : w1.cell? ⟨w.heap.size, 0, none⟩ = some (.slice r n c) := by rw [hb.cell (p := ⟨w.heap.size, 0, none⟩) (by simp)]; simp
  have q1 : w1.cell? ⟨w.heap.size, 1, none⟩ = some (.slice r' n c') := by rw [hb.cell (p := ⟨w.heap.size, 1, none⟩) (by simp)]; simp
  have q2 : w1.cell? ⟨w.heap.size, 2, none⟩ = some (.int .i64 1) := by rw [hb.cell (p := ⟨w.heap.size, 2, none⟩) (by simp)]; simp
  have hsz := hb.size
  simp only [World.size_alloc] at hsz
  have hB : Below w.heap.size w w1 := ((Below.refl _ _).alloc (Nat.le_refl _) _).trans (hb.mono (by simp))
  have HR1 : Hid (0 < n → RowsAt g h L w1) := Lib.hid (fun hp => (HR.out hp).keep hB)
  have Q0 := Lib.hid q0
  have Q1 := Lib.hid q1
  have hlt0 : w.heap.size < w1.heap.size := by omega
  clear hb HR
  go_wp2
  go_loopw [3, 5] (fun E i wr => ∃ j : Nat, i = .int .i64 ((j : Int) - 1) ∧ j ≤ n ∧ E = wv (faultV cd a) (L.drop j) ∧ Below w1.heap.size w1 wr) (fun _ i _ => (intOf i + 1).toNat)
  case atStart => exact ⟨n, by simp, by omega, by rw [List.drop_eq_nil_of_le (by rw [HL.out]; omega)]; rfl, Below.refl _ _⟩
  case round =>
    obtain ⟨j, rfl, hj, rfl, hbr⟩ := hrel
    by_cases hlt : 0 < j
    · obtain ⟨m, rfl⟩ : ∃ m, j = m + 1 := ⟨j - 1, by omega⟩
      obtain ⟨rfl, rfl⟩ : r = some ⟨g, 0, none⟩ ∧ r' = some ⟨h, 0, none⟩ := HRR.out.resolve_left (by omega)
      obtain ⟨h1, h2, h3⟩ := HR1.out (by omega)
      obtain ⟨s, hs⟩ : ∃ s, L[m]? = some s := ⟨_, List.getElem?_eq_getElem (by rw [HL.out]; omega)⟩
      obtain ⟨c1, c2⟩ := h3 m s hs
      have d1 : wr.cell? ⟨g, m, none⟩ = some (.string s.1) := by rw [hbr.cell (p := ⟨g, m, none⟩) h1]; exact c1
      have d2 : wr.cell? ⟨h, m, none⟩ = some (.int .i64 s.2) := by rw [hbr.cell (p := ⟨h, m, none⟩) h2]; exact c2
      have d3 : wr.cell? ⟨w.heap.size, 0, none⟩ = some (.slice (some ⟨g, 0, none⟩) n c) := by rw [hbr.cell (p := ⟨w.heap.size, 0, none⟩) hlt0]; exact Q0.out
      have d4 : wr.cell? ⟨w.heap.size, 1, none⟩ = some (.slice (some ⟨h, 0, none⟩) n c') := by rw [hbr.cell (p := ⟨w.heap.size, 1, none⟩) hlt0]; exact Q1.out
      have HS := Lib.hid (wv_drop (faultV cd a) L m s hs)
      obtain ⟨u, v, he⟩ := wv_iface (faultV cd a) HX (L.drop (m + 1))
      have HE := Lib.hid he
      have y1 : (0 : Int) ≤ (m : Int) + 1 - 1 := by omega
      have y2 : ((m : Int) + 1 - 1).toNat = m := by omega
      have y3 : (m : Int) + 1 - 1 < (n : Int) := by omega
      rw [he]
      clear h3 hs c1 c2 he h1 h2 q0 q1 q2
      go_wp2_with fail
      go_quiet ((go_at_call 17; exact Calls.quiet_of (under_q _ _ _ _ _)))
      go_wp2
      go_roundw
      case rel => exact ⟨m, by go_num, by omega, by rw [HS.out, HE.out], bel_drewN hbr _⟩
      case measure => first | (simp [intOf]; done) | (simp [intOf]; omega)
    · obtain rfl : j = 0 := by omega
      have hb2 := hB.trans (hbr.mono (by omega))
      go_wp2
      go_ret
      exact ⟨rfl, hb2⟩

set_option maxRecDepth 100000 in
set_option maxHeartbeats 4000000 in
theorem way_2 (r r' : Option Addr) (g h c c' : Nat) (n : Nat) (cd a : Int) (L : List (ByteArray × Int)) (hL : L.length = n) (hr : n = 0 ∨ r = some ⟨g, 0, none⟩ ∧ r' = some ⟨h, 0, none⟩) (hn1 : n ≤ 1000) (w : World) (hR : 0 < n → RowsAt g h L w) :
    Calls Tryd.prog 12 #[.agg #[.slice r n c, .slice r' n c', .int .i64 2, .int .i64 cd, .int .i64 a]] w fun e w' => e = .returned (wv (numV cd) L) ∧ Below w.heap.size w w' := by
  have HR := Lib.hid hR
  have HL := Lib.hid hL
  have HRR := Lib.hid hr
  have HX : ∃ u v, (numV cd) = .iface u v := ⟨_, _, rfl⟩
  clear hR hL hr
  go_enter Tryd.func12, Tryd.ntmps12
  go_wp2_with fail
  refine (end_2 _ _ _ _ _ _ _ _ _).mono ?_
  rintro e w1 ⟨rfl, hb⟩
  have q0 : w1.cell? ⟨w.heap.size, 0, none⟩ = some (.slice r n c) := by rw [hb.cell (p := ⟨w.heap.size, 0, none⟩) (by simp)]; simp
  have q1 : w1.cell? ⟨w.heap.size, 1, none⟩ = some (.slice r' n c') := by rw [hb.cell (p := ⟨w.heap.size, 1, none⟩) (by simp)]; simp
  have q2 : w1.cell? ⟨w.heap.size, 2, none⟩ = some (.int .i64 2) := by rw [hb.cell (p := ⟨w.heap.size, 2, none⟩) (by simp)]; simp
  have hsz := hb.size
  simp only [World.size_alloc] at hsz
  have hB : Below w.heap.size w w1 := ((Below.refl _ _).alloc (Nat.le_refl _) _).trans (hb.mono (by simp))
  have HR1 : Hid (0 < n → RowsAt g h L w1) := Lib.hid (fun hp => (HR.out hp).keep hB)
  have Q0 := Lib.hid q0
  have Q1 := Lib.hid q1
  have hlt0 : w.heap.size < w1.heap.size := by omega
  clear hb HR
  go_wp2
  go_loopw [3, 5] (fun E i wr => ∃ j : Nat, i = .int .i64 ((j : Int) - 1) ∧ j ≤ n ∧ E = wv (numV cd) (L.drop j) ∧ Below w1.heap.size w1 wr) (fun _ i _ => (intOf i + 1).toNat)
  case atStart => exact ⟨n, by simp, by omega, by rw [List.drop_eq_nil_of_le (by rw [HL.out]; omega)]; rfl, Below.refl _ _⟩
  case round =>
    obtain ⟨j, rfl, hj, rfl, hbr⟩ := hrel
    by_cases hlt : 0 < j
    · obtain ⟨m, rfl⟩ : ∃ m, j = m + 1 := ⟨j - 1, by omega⟩
      obtain ⟨rfl, rfl⟩ : r = some ⟨g, 0, none⟩ ∧ r' = some ⟨h, 0, none⟩ := HRR.out.resolve_left (by omega)
      obtain ⟨h1, h2, h3⟩ := HR1.out (by omega)
      obtain ⟨s, hs⟩ : ∃ s, L[m]? = some s := ⟨_, List.getElem?_eq_getElem (by rw [HL.out]; omega)⟩
      obtain ⟨c1, c2⟩ := h3 m s hs
      have d1 : wr.cell? ⟨g, m, none⟩ = some (.string s.1) := by rw [hbr.cell (p := ⟨g, m, none⟩) h1]; exact c1
      have d2 : wr.cell? ⟨h, m, none⟩ = some (.int .i64 s.2) := by rw [hbr.cell (p := ⟨h, m, none⟩) h2]; exact c2
      have d3 : wr.cell? ⟨w.heap.size, 0, none⟩ = some (.slice (some ⟨g, 0, none⟩) n c) := by rw [hbr.cell (p := ⟨w.heap.size, 0, none⟩) hlt0]; exact Q0.out
      have d4 : wr.cell? ⟨w.heap.size, 1, none⟩ = some (.slice (some ⟨h, 0, none⟩) n c') := by rw [hbr.cell (p := ⟨w.heap.size, 1, none⟩) hlt0]; exact Q1.out
      have HS := Lib.hid (wv_drop (numV cd) L m s hs)
      obtain ⟨u, v, he⟩ := wv_iface (numV cd) HX (L.drop (m + 1))
      have HE := Lib.hid he
      have y1 : (0 : Int) ≤ (m : Int) + 1 - 1 := by omega
      have y2 : ((m : Int) + 1 - 1).toNat = m := by omega
      have y3 : (m : Int) + 1 - 1 < (n : Int) := by omega
      rw [he]
      clear h3 hs c1 c2 he h1 h2 q0 q1 q2
      go_wp2_with fail
      go_quiet ((go_at_call 17; exact Calls.quiet_of (under_q _ _ _ _ _)))
      go_wp2
      go_roundw
      case rel => exact ⟨m, by go_num, by omega, by rw [HS.out, HE.out], bel_drewN hbr _⟩
      case measure => first | (simp [intOf]; done) | (simp [intOf]; omega)
    · obtain rfl : j = 0 := by omega
      have hb2 := hB.trans (hbr.mono (by omega))
      go_wp2
      go_ret
      exact ⟨rfl, hb2⟩

set_option maxRecDepth 100000 in
set_option maxHeartbeats 4000000 in
theorem way_0 (r r' : Option Addr) (g h c c' : Nat) (n : Nat) (cd a : Int) (L : List (ByteArray × Int)) (hL : L.length = n) (hr : n = 0 ∨ r = some ⟨g, 0, none⟩ ∧ r' = some ⟨h, 0, none⟩) (hn1 : n ≤ 1000) (w : World) (hR : 0 < n → RowsAt g h L w) :
    Calls Tryd.prog 12 #[.agg #[.slice r (n + 1) c, .slice r' (n + 1) c', .int .i64 0, .int .i64 cd, .int .i64 a]] w fun e w' => e = .returned (wv (Value.iface 47 (Value.agg #[.string ⟨#[101, 110, 100]⟩, .int .i64 a, .nilIface])) L) ∧ Below w.heap.size w w' := by
  have HR := Lib.hid hR
  have HL := Lib.hid hL
  have HRR := Lib.hid hr
  have HX : ∃ u v, (Value.iface 47 (Value.agg #[.string ⟨#[101, 110, 100]⟩, .int .i64 a, .nilIface])) = .iface u v := ⟨_, _, rfl⟩
  clear hR hL hr
  go_enter Tryd.func12, Tryd.ntmps12
  go_wp2_with fail
  refine (end_0 _ _ _ _ _ _ _ _ _).mono ?_
  rintro e w1 ⟨rfl, hb⟩
  have q0 : w1.cell? ⟨w.heap.size, 0, none⟩ = some (.slice r (n + 1) c) := by rw [hb.cell (p := ⟨w.heap.size, 0, none⟩) (by simp)]; simp
  have q1 : w1.cell? ⟨w.heap.size, 1, none⟩ = some (.slice r' (n + 1) c') := by rw [hb.cell (p := ⟨w.heap.size, 1, none⟩) (by simp)]; simp
  have q2 : w1.cell? ⟨w.heap.size, 2, none⟩ = some (.int .i64 0) := by rw [hb.cell (p := ⟨w.heap.size, 2, none⟩) (by simp)]; simp
  have hsz := hb.size
  simp only [World.size_alloc] at hsz
  have hB : Below w.heap.size w w1 := ((Below.refl _ _).alloc (Nat.le_refl _) _).trans (hb.mono (by simp))
  have HR1 : Hid (0 < n → RowsAt g h L w1) := Lib.hid (fun hp => (HR.out hp).keep hB)
  have Q0 := Lib.hid q0
  have Q1 := Lib.hid q1
  have hlt0 : w.heap.size < w1.heap.size := by omega
  clear hb HR
  go_wp2
  go_loopw [3, 5] (fun E i wr => ∃ j : Nat, i = .int .i64 ((j : Int) - 1) ∧ j ≤ n ∧ E = wv (Value.iface 47 (Value.agg #[.string ⟨#[101, 110, 100]⟩, .int .i64 a, .nilIface])) (L.drop j) ∧ Below w1.heap.size w1 wr) (fun _ i _ => (intOf i + 1).toNat)
  case atStart => exact ⟨n, by go_num, by omega, by rw [List.drop_eq_nil_of_le (by rw [HL.out]; omega)]; rfl, Below.refl _ _⟩
  case round =>
    obtain ⟨j, rfl, hj, rfl, hbr⟩ := hrel
    by_cases hlt : 0 < j
    · obtain ⟨m, rfl⟩ : ∃ m, j = m + 1 := ⟨j - 1, by omega⟩
      obtain ⟨rfl, rfl⟩ : r = some ⟨g, 0, none⟩ ∧ r' = some ⟨h, 0, none⟩ := HRR.out.resolve_left (by omega)
      obtain ⟨h1, h2, h3⟩ := HR1.out (by omega)
      obtain ⟨s, hs⟩ : ∃ s, L[m]? = some s := ⟨_, List.getElem?_eq_getElem (by rw [HL.out]; omega)⟩
      obtain ⟨c1, c2⟩ := h3 m s hs
      have d1 : wr.cell? ⟨g, m, none⟩ = some (.string s.1) := by rw [hbr.cell (p := ⟨g, m, none⟩) h1]; exact c1
      have d2 : wr.cell? ⟨h, m, none⟩ = some (.int .i64 s.2) := by rw [hbr.cell (p := ⟨h, m, none⟩) h2]; exact c2
      have d3 : wr.cell? ⟨w.heap.size, 0, none⟩ = some (.slice (some ⟨g, 0, none⟩) (n + 1) c) := by rw [hbr.cell (p := ⟨w.heap.size, 0, none⟩) hlt0]; exact Q0.out
      have d4 : wr.cell? ⟨w.heap.size, 1, none⟩ = some (.slice (some ⟨h, 0, none⟩) (n + 1) c') := by rw [hbr.cell (p := ⟨w.heap.size, 1, none⟩) hlt0]; exact Q1.out
      have HS := Lib.hid (wv_drop (Value.iface 47 (Value.agg #[.string ⟨#[101, 110, 100]⟩, .int .i64 a, .nilIface])) L m s hs)
      obtain ⟨u, v, he⟩ := wv_iface (Value.iface 47 (Value.agg #[.string ⟨#[101, 110, 100]⟩, .int .i64 a, .nilIface])) HX (L.drop (m + 1))
      have HE := Lib.hid he
      have y1 : (0 : Int) ≤ (m : Int) + 1 - 1 := by omega
      have y2 : ((m : Int) + 1 - 1).toNat = m := by omega
      have y3 : (m : Int) + 1 - 1 < ((n : Int) + 1 : Int) := by omega
      rw [he]
      clear h3 hs c1 c2 he h1 h2 q0 q1 q2
      go_wp2_with fail
      go_quiet ((go_at_call 17; exact Calls.quiet_of (under_q _ _ _ _ _)))
      go_wp2
      go_roundw
      case rel => exact ⟨m, by go_num, by omega, by rw [HS.out, HE.out], bel_drewN hbr _⟩
      case measure => first | (simp [intOf]; done) | (simp [intOf]; omega)
    · obtain rfl : j = 0 := by omega
      have hb2 := hB.trans (hbr.mono (by omega))
      go_wp2
      go_ret
      exact ⟨rfl, hb2⟩

end Go.Proofs.YtplgcegpmebejaaDoor
