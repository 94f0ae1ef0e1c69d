/- The walks of the program's sign and closed (layer 7). -/
import Derived.Test.YtnnnanemefcmdaaGreatDoorZL1b
import Derived.Deep.QuietTactic
import Derived.BigQuiet
import Derived.StillTailTactics
import Derived.RegionTactic
import Derived.Test.YtnnnanemefcmdaaGreatDoorZNum
import Derived.Test.YtnnnanemefcmdaaGreatDoorZL0a
import Derived.Test.YtnnnanemefcmdaaGreatDoorZL0d
import Derived.Test.YtnnnanemefcmdaaGreatDoorZL0b
namespace Go.Proofs.YtnnnanemefcmdaaGreatDoor
open Go.RowKit

theorem infoU8 : (Tryz.prog.info? 5).map (fun i => (i.zero, i.size, i.bytes)) = some (some (.int .u8 0), 1, 1) := by kernel_rfl
theorem cells_new2 (w : World) (X Y : Obj) (cs : List Value) (t : TypeId) (j : Nat) (u : Value) (h : cs[j]? = some u) :
    (((w.alloc X).alloc Y).alloc (.cells cs.toArray t)).cell? ((⟨w.heap.size + 1 + 1, 0, none⟩ : Addr).add j) = some u := by
  have := cells_new ((w.alloc X).alloc Y) cs t j u h
  simpa using this
abbrev Tz : Obj := .cells #[.int .i64 0, .int .i64 0, .string ⟨#[]⟩] 38
abbrev Fz : Obj := .cells #[.int .i64 0, .int .i64 0] 27
set_option maxRecDepth 100000 in
set_option maxHeartbeats 2000000 in
theorem prSign_91 {W0 : World} {R B g : Nat} {s : ByteArray} {tv : Value} {toks : List Tk} {op : List UInt8} (i : Nat) (w : World) (h : St W0 R B g s tv toks op w) (_hs : s.size ≤ 3000) (hi : i < s.size) (hc : bt s i = 91) (hr : op.length < s.size) :
    Calls Tryz.prog 27 #[.pointer (some ⟨B, 0, none⟩), .int .i64 i] w fun e w' => e = .returned (.tuple #[.agg #[.int .i64 4, .int .i64 0, .string ⟨#[]⟩], .agg #[.int .i64 0, .int .i64 0]]) ∧ St W0 R B g s tv toks (op ++ [93]) w' ∧ Kept B g w w' := by
  have q91 : ((s[i].toNat : Int) == 91) = true := (eq_true (c := 91) hi hc).2
  have c0 := cell_hp h.row 0 _ rfl
  have c2 := cell_hp h.row 2 _ rfl
  have f2 := free_hp h.row 2
  have hBl := hlt_of h.row
  have hBm : ¬ B = w.heap.size := by omega
  have hopn := h.opn
  obtain ⟨i0, hi0, hz0, hz1, hz2⟩ := info_parts infoU8
  have H := Lib.hid h
  clear hc h
  go_enter Tryz.func27, Tryz.ntmps27
  go_wp2_with (at_builtin; refine wpList_append_own_spare _ rfl _ _ 52 rfl W0.heap.size 5 i0 1 Tryz.underlying52 hi0 hz1 g op.length s.size _ rfl (((hopn.alloc _).alloc _).alloc _) ⟨w.heap.size + 1 + 1, 0, none⟩ 1 1 [.int .u8 93] rfl rfl (fun j u hj => cells_new2 w _ _ _ _ j u hj) (fun u hu => by simp at hu; subst hu; rfl) (by omega) ?_)
  intro w3 hown3 hgrow
  have hb1 : Below w.heap.size w (((w.alloc (.cells #[.int .i64 0, .int .i64 0, .string ⟨#[]⟩] 38)).alloc (.cells #[.int .i64 0, .int .i64 0] 27)).alloc (.cells #[.int .u8 93] 5)) := (((Below.refl w.heap.size w).alloc (Nat.le_refl _) _).alloc (by simp) _).alloc (by simp; omega) _
  obtain ⟨hrow3, hfr, hst, hkp⟩ := H.out.push hb1 hgrow (c := 93) hown3
  have hx1 : w3.heap[w.heap.size]? = some (.cells #[.int .i64 0, .int .i64 0, .string ⟨#[]⟩] 38) := hfr _ _ (Nat.le_refl _) (by rw [Lib.alloc_old _ _ _ (by simp; omega), Lib.alloc_old _ _ _ (by simp)]; exact heap_alloc_new w (.cells #[.int .i64 0, .int .i64 0, .string ⟨#[]⟩] 38))
  have hx2 : w3.heap[w.heap.size + 1]? = some (.cells #[.int .i64 0, .int .i64 0] 27) := hfr _ _ (Nat.le_succ _) (by rw [Lib.alloc_old _ _ _ (by simp)]; have := heap_alloc_new (w.alloc (.cells #[.int .i64 0, .int .i64 0, .string ⟨#[]⟩] 38)) (.cells #[.int .i64 0, .int .i64 0] 27); simpa using this)
  have r2 := cell_hp hrow3 2 _ rfl
  have rf2 := free_hp hrow3 2
  have a0 := cell_hp hx1 0 _ rfl
  have e0 := free_hp hx1 0
  have a1 := cell_hp hx1 1 _ rfl
  have e1 := free_hp hx1 1
  have a2 := cell_hp hx1 2 _ rfl
  have e2 := free_hp hx1 2
  have d0 := cell_hp hx2 0 _ rfl
  have f0 := free_hp hx2 0
  have d1 := cell_hp hx2 1 _ rfl
  have f1 := free_hp hx2 1
  have hl := H.out.lows
  have HS := Lib.hid hst
  have HL := Lib.hid hl
  have HK := Lib.hid hkp
  clear hfr hst hkp hl hrow3 hx1 hx2 hb1 hgrow hown3 hopn c0 c2 f2
  go_wp2
  refine bodyPost_ret (v := .tuple #[.agg #[.int .i64 4, .int .i64 0, .string ⟨#[]⟩], .agg #[.int .i64 0, .int .i64 0]]) (by simp [results, Tryz.results27, go_sem, a0, a1, a2, d0, d1]) rfl ⟨rfl, ?_⟩
  exact ⟨(((((HS.out.set HL.out (Nat.le_refl _) 0 _).set HL.out (Nat.le_refl _) 1 _).set HL.out (Nat.le_refl _) 2 _).set HL.out (Nat.le_succ _) 0 _).set HL.out (Nat.le_succ _) 1 _), (((((HK.out.set (Nat.le_refl _) 0 _).set (Nat.le_refl _) 1 _).set (Nat.le_refl _) 2 _).set (Nat.le_succ _) 0 _).set (Nat.le_succ _) 1 _)⟩
set_option maxRecDepth 100000 in
set_option maxHeartbeats 2000000 in
theorem prSign_123 {W0 : World} {R B g : Nat} {s : ByteArray} {tv : Value} {toks : List Tk} {op : List UInt8} (i : Nat) (w : World) (h : St W0 R B g s tv toks op w) (_hs : s.size ≤ 3000) (hi : i < s.size) (hc : bt s i = 123) (hr : op.length < s.size) :
    Calls Tryz.prog 27 #[.pointer (some ⟨B, 0, none⟩), .int .i64 i] w fun e w' => e = .returned (.tuple #[.agg #[.int .i64 6, .int .i64 0, .string ⟨#[]⟩], .agg #[.int .i64 0, .int .i64 0]]) ∧ St W0 R B g s tv toks (op ++ [125]) w' ∧ Kept B g w w' := by
  have q91 : ((s[i].toNat : Int) == 91) = false := (ne_true (c := 91) hi (by omega)).2
  have q123 : ((s[i].toNat : Int) == 123) = true := (eq_true (c := 123) hi hc).2
  have c0 := cell_hp h.row 0 _ rfl
  have c2 := cell_hp h.row 2 _ rfl
  have f2 := free_hp h.row 2
  have hBl := hlt_of h.row
  have hBm : ¬ B = w.heap.size := by omega
  have hopn := h.opn
  obtain ⟨i0, hi0, hz0, hz1, hz2⟩ := info_parts infoU8
  have H := Lib.hid h
  clear hc h
  go_enter Tryz.func27, Tryz.ntmps27
  go_wp2_with (at_builtin; refine wpList_append_own_spare _ rfl _ _ 52 rfl W0.heap.size 5 i0 1 Tryz.underlying52 hi0 hz1 g op.length s.size _ rfl (((hopn.alloc _).alloc _).alloc _) ⟨w.heap.size + 1 + 1, 0, none⟩ 1 1 [.int .u8 125] rfl rfl (fun j u hj => cells_new2 w _ _ _ _ j u hj) (fun u hu => by simp at hu; subst hu; rfl) (by omega) ?_)
  intro w3 hown3 hgrow
  have hb1 : Below w.heap.size w (((w.alloc (.cells #[.int .i64 0, .int .i64 0, .string ⟨#[]⟩] 38)).alloc (.cells #[.int .i64 0, .int .i64 0] 27)).alloc (.cells #[.int .u8 125] 5)) := (((Below.refl w.heap.size w).alloc (Nat.le_refl _) _).alloc (by simp) _).alloc (by simp; omega) _
  obtain ⟨hrow3, hfr, hst, hkp⟩ := H.out.push hb1 hgrow (c := 125) hown3
  have hx1 : w3.heap[w.heap.size]? = some (.cells #[.int .i64 0, .int .i64 0, .string ⟨#[]⟩] 38) := hfr _ _ (Nat.le_refl _) (by rw [Lib.alloc_old _ _ _ (by simp; omega), Lib.alloc_old _ _ _ (by simp)]; exact heap_alloc_new w (.cells #[.int .i64 0, .int .i64 0, .string ⟨#[]⟩] 38))
  have hx2 : w3.heap[w.heap.size + 1]? = some (.cells #[.int .i64 0, .int .i64 0] 27) := hfr _ _ (Nat.le_succ _) (by rw [Lib.alloc_old _ _ _ (by simp)]; have := heap_alloc_new (w.alloc (.cells #[.int .i64 0, .int .i64 0, .string ⟨#[]⟩] 38)) (.cells #[.int .i64 0, .int .i64 0] 27); simpa using this)
  have r2 := cell_hp hrow3 2 _ rfl
  have rf2 := free_hp hrow3 2
  have a0 := cell_hp hx1 0 _ rfl
  have e0 := free_hp hx1 0
  have a1 := cell_hp hx1 1 _ rfl
  have e1 := free_hp hx1 1
  have a2 := cell_hp hx1 2 _ rfl
  have e2 := free_hp hx1 2
  have d0 := cell_hp hx2 0 _ rfl
  have f0 := free_hp hx2 0
  have d1 := cell_hp hx2 1 _ rfl
  have f1 := free_hp hx2 1
  have hl := H.out.lows
  have HS := Lib.hid hst
  have HL := Lib.hid hl
  have HK := Lib.hid hkp
  clear hfr hst hkp hl hrow3 hx1 hx2 hb1 hgrow hown3 hopn c0 c2 f2
  go_wp2
  refine bodyPost_ret (v := .tuple #[.agg #[.int .i64 6, .int .i64 0, .string ⟨#[]⟩], .agg #[.int .i64 0, .int .i64 0]]) (by simp [results, Tryz.results27, go_sem, a0, a1, a2, d0, d1]) rfl ⟨rfl, ?_⟩
  exact ⟨(((((HS.out.set HL.out (Nat.le_refl _) 0 _).set HL.out (Nat.le_refl _) 1 _).set HL.out (Nat.le_refl _) 2 _).set HL.out (Nat.le_succ _) 0 _).set HL.out (Nat.le_succ _) 1 _), (((((HK.out.set (Nat.le_refl _) 0 _).set (Nat.le_refl _) 1 _).set (Nat.le_refl _) 2 _).set (Nat.le_succ _) 0 _).set (Nat.le_succ _) 1 _)⟩
end Go.Proofs.YtnnnanemefcmdaaGreatDoor
namespace Go.Proofs.YtnnnanemefcmdaaGreatDoor
open Go.RowKit

theorem bt_extract (s : ByteArray) (a b j : Nat) (h : a + j < b) (hb : b ≤ s.size) : bt (s.extract a b) j = bt s (a + j) := by
  have hz : (s.extract a b).size = b - a := by simp; omega
  rw [← bt_get _ j (by omega), ← bt_get s (a + j) (by omega)]
  simp [ByteArray.getElem_extract]
theorem numO_extract (s : ByteArray) (a b i k : Nat) (h : a + i + k ≤ b) (hb : b ≤ s.size) : numO (s.extract a b) i k = numO s (a + i) k := by
  induction k with
  | zero => rfl
  | succ k ih =>
    simp only [numO, ih (by omega)]
    rw [bt_extract s a b (i + k) (by omega) hb, show a + (i + k) = a + i + k by omega]
theorem numR_extract (s : ByteArray) (a i n : Nat) (ha : a ≤ s.size) : numR (s.extract a s.size) i n = numR s (a + i) n := by
  have hz : (s.extract a s.size).size = s.size - a := by simp
  unfold numR
  by_cases h : s.size < a + i + n
  · rw [if_pos h, if_pos (by omega)]
  · rw [if_neg h, if_neg (by omega), numO_extract s a s.size i n (by omega) (Nat.le_refl _)]

/-- What number answers. -/
def nuT (v : Int) : Value := if v < 0 then .tuple #[.int .i32 0, .bool false] else .tuple #[.int .i32 v, .bool (!decide (55296 ≤ v ∧ v < 57344))]
theorem valid_rune (v : Nat) (h : v < 65536) : Lib.validRune (v : Int) = !decide (55296 ≤ (v : Int) ∧ (v : Int) < 57344) := by
  unfold Lib.validRune
  rw [Bool.eq_iff_iff]; simp; omega

set_option maxRecDepth 100000 in
set_option maxHeartbeats 2000000 in
theorem number_any' (s : ByteArray) (d : Nat) (w : World) (hd : 1 ≤ d) (hd4 : d ≤ 4) (hE : ErrCell w) :
    Calls Tryz.prog 102 #[.string s, .int .i64 d] w fun e w' => e = .returned (nuT (numR s 0 d)) ∧ Below w.heap.size w w' := by
  by_cases hz : s.size < d
  · have HR := Lib.hid (show nuT (numR s 0 d) = .tuple #[.int .i32 0, .bool false] by unfold numR; rw [if_pos (by omega)]; rfl)
    have d1 : decide ((s.size : Int) < (d : Int)) = true := decide_eq_true (by omega)
    go_enter Tryz.func102, Tryz.ntmps102
    go_wp2
    go_ret2
    exact ⟨by rw [HR.out]; rfl, Below.refl _ _⟩
  · have d1 : decide ((s.size : Int) < (d : Int)) = false := decide_eq_false (by omega)
    have hts : (s.extract 0 d).size = d := by simp; omega
    have hP := parsePub (s.extract 0 d) (by omega) (by omega) w hE
    have hn : numO (s.extract 0 d) 0 (s.extract 0 d).size = numO s 0 d := by
      rw [hts, numO_extract s 0 d 0 d (by omega) (by omega)]
    rw [hn] at hP
    cases hnn : numO s 0 d with
    | none =>
      have HR := Lib.hid (show nuT (numR s 0 d) = .tuple #[.int .i32 0, .bool false] by unfold numR; rw [if_neg (by omega), hnn]; rfl)
      rw [hnn] at hP
      have hP2 : Calls Tryz.prog 122 #[.string (s.extract 0 d), .int .i64 16, .int .i64 16] w fun e w' => (∃ te pe, e = .returned (.tuple #[.int .u64 0, .iface te pe])) ∧ Below w.heap.size w w' :=
        hP.mono fun e w' ⟨h1, h2⟩ => ⟨by rcases h1 with ⟨v, hv, _⟩ | ⟨_, h⟩
                                         · cases hv
                                         · exact h, h2⟩
      clear hn hnn hE hP
      go_enter Tryz.func102, Tryz.ntmps102
      go_wp2_with (go_at_call 122; refine hP2.mono ?_)
      rintro e w1 ⟨⟨te, pe, rfl⟩, hb⟩
      go_wp2
      go_ret2
      exact ⟨by rw [HR.out]; rfl, hb⟩
    | some v =>
      have hv4 := numO_le hnn
      have hp : (16 : Nat) ^ d ≤ 16 ^ 4 := Nat.pow_le_pow_right (by decide) hd4
      have hp4 : (16 : Nat) ^ 4 = 65536 := by decide
      have hv5 : v < 65536 := by rw [hp4] at hp; omega
      have HR := Lib.hid (show nuT (numR s 0 d) = .tuple #[.int .i32 v, .bool (Lib.validRune (v : Int))] by
        have h1 : numR s 0 d = v := by unfold numR; rw [if_neg (by omega), hnn]
        rw [h1, valid_rune v hv5]; unfold nuT; rw [if_neg (by omega)])
      rw [hnn] at hP
      have hP2 : Calls Tryz.prog 122 #[.string (s.extract 0 d), .int .i64 16, .int .i64 16] w fun e w' => e = .returned (.tuple #[.int .u64 v, .nilIface]) ∧ Below w.heap.size w w' :=
        hP.mono fun e w' ⟨h1, h2⟩ => ⟨by rcases h1 with ⟨v', hv, h⟩ | ⟨hv, _⟩
                                         · cases hv; exact h
                                         · exact absurd hv (by simp), h2⟩
      clear hn hnn hE hv4 hp hp4 hP
      go_enter Tryz.func102, Tryz.ntmps102
      go_wp2_with (first | (go_at_call 122; refine hP2.mono ?_; rintro e w1 ⟨rfl, hb⟩) | (go_at_call 123; refine (Tryz.utf8_ValidRune _ _).mono ?_; rintro e w2 ⟨rfl, rfl⟩))
      go_ret2
      exact ⟨by rw [HR.out]; rfl, hb⟩
end Go.Proofs.YtnnnanemefcmdaaGreatDoor
namespace Go.Proofs.YtnnnanemefcmdaaGreatDoor
open Go.RowKit

theorem u_emp {u : ByteArray} (hu0 : 0 < u.size) : (u.toList == (ByteArray.mk #[]).toList) = false := by
  rw [Lib.bytes_beq_false_iff]
  intro h; rw [h] at hu0; exact absurd hu0 (by decide)
theorem u_emp2 {u : ByteArray} (hu0 : 0 < u.size) : u.toList.isEmpty = false := by
  rw [← decide_eq_emptyBytes]
  exact decide_eq_false (fun h => by rw [h] at hu0; exact absurd hu0 (by decide))
theorem u_no {u : ByteArray} {c : Nat} (hu0 : 0 < u.size) (h : u[0].toNat ≠ c) : ((u[0].toNat : Int) == (c : Int)) = false := by
  simp only [beq_eq_false_iff_ne, ne_eq]; omega

set_option maxRecDepth 100000 in
set_option maxHeartbeats 1000000 in
theorem esc_empty (w : World) :
    Calls Tryz.prog 68 #[.string ⟨#[]⟩] w fun e w' => e = .returned (.tuple #[.int .i32 0, .int .i64 0, .bool false]) ∧ Below w.heap.size w w' := by
  go_enter Tryz.func68, Tryz.ntmps68
  go_wp2
  refine bodyPost_ret (v := .tuple #[.int .i32 (0), .int .i64 0, .bool false]) (by simp [results, Tryz.results68, go_sem]) rfl ⟨rfl, Below.refl _ _⟩

set_option maxRecDepth 100000 in
set_option maxHeartbeats 1000000 in
theorem esc_bs (u : ByteArray) (w : World) (hu0 : 0 < u.size) (_hus : u.size ≤ 100000) (hb : u[0].toNat = 92) :
    Calls Tryz.prog 68 #[.string u] w fun e w' => e = .returned (.tuple #[.int .i32 92, .int .i64 1, .bool true]) ∧ Below w.heap.size w w' := by
  have hemp := u_emp hu0
  have hemp2 := u_emp2 hu0
  have p92 : ((u[0].toNat : Int) == 92) = true := by rw [hb]; decide
  have HB := Lib.hid hb
  have hw : wrap32 (u[0].toNat : Int) = (u[0].toNat : Int) := by have := u[0].toNat_lt; exact IntWalk.wrap32_in _ (by omega)
  clear hb
  go_enter Tryz.func68, Tryz.ntmps68
  go_wp2
  refine bodyPost_ret (v := .tuple #[.int .i32 ((u[0].toNat : Int)), .int .i64 1, .bool true]) (by simp [results, Tryz.results68, go_sem, hw]) rfl ⟨by rw [HB.out]; rfl, Below.refl _ _⟩

set_option maxRecDepth 100000 in
set_option maxHeartbeats 1000000 in
theorem esc_qu (u : ByteArray) (w : World) (hu0 : 0 < u.size) (_hus : u.size ≤ 100000) (hb : u[0].toNat = 34) :
    Calls Tryz.prog 68 #[.string u] w fun e w' => e = .returned (.tuple #[.int .i32 34, .int .i64 1, .bool true]) ∧ Below w.heap.size w w' := by
  have hemp := u_emp hu0
  have hemp2 := u_emp2 hu0
  have n92 : ((u[0].toNat : Int) == 92) = false := by rw [hb]; decide
  have p34 : ((u[0].toNat : Int) == 34) = true := by rw [hb]; decide
  have HB := Lib.hid hb
  have hw : wrap32 (u[0].toNat : Int) = (u[0].toNat : Int) := by have := u[0].toNat_lt; exact IntWalk.wrap32_in _ (by omega)
  clear hb
  go_enter Tryz.func68, Tryz.ntmps68
  go_wp2
  refine bodyPost_ret (v := .tuple #[.int .i32 ((u[0].toNat : Int)), .int .i64 1, .bool true]) (by simp [results, Tryz.results68, go_sem, hw]) rfl ⟨by rw [HB.out]; rfl, Below.refl _ _⟩

set_option maxRecDepth 100000 in
set_option maxHeartbeats 1000000 in
theorem esc_n (u : ByteArray) (w : World) (hu0 : 0 < u.size) (_hus : u.size ≤ 100000) (hb : u[0].toNat = 110) :
    Calls Tryz.prog 68 #[.string u] w fun e w' => e = .returned (.tuple #[.int .i32 10, .int .i64 1, .bool true]) ∧ Below w.heap.size w w' := by
  have hemp := u_emp hu0
  have hemp2 := u_emp2 hu0
  have n92 : ((u[0].toNat : Int) == 92) = false := by rw [hb]; decide
  have n34 : ((u[0].toNat : Int) == 34) = false := by rw [hb]; decide
  have p110 : ((u[0].toNat : Int) == 110) = true := by rw [hb]; decide
  clear hb
  go_enter Tryz.func68, Tryz.ntmps68
  go_wp2
  refine bodyPost_ret (v := .tuple #[.int .i32 (10), .int .i64 1, .bool true]) (by simp [results, Tryz.results68, go_sem]) rfl ⟨rfl, Below.refl _ _⟩

set_option maxRecDepth 100000 in
set_option maxHeartbeats 1000000 in
theorem esc_t (u : ByteArray) (w : World) (hu0 : 0 < u.size) (_hus : u.size ≤ 100000) (hb : u[0].toNat = 116) :
    Calls Tryz.prog 68 #[.string u] w fun e w' => e = .returned (.tuple #[.int .i32 9, .int .i64 1, .bool true]) ∧ Below w.heap.size w w' := by
  have hemp := u_emp hu0
  have hemp2 := u_emp2 hu0
  have n92 : ((u[0].toNat : Int) == 92) = false := by rw [hb]; decide
  have n34 : ((u[0].toNat : Int) == 34) = false := by rw [hb]; decide
  have n110 : ((u[0].toNat : Int) == 110) = false := by rw [hb]; decide
  have p116 : ((u[0].toNat : Int) == 116) = true := by rw [hb]; decide
  clear hb
  go_enter Tryz.func68, Tryz.ntmps68
  go_wp2
  refine bodyPost_ret (v := .tuple #[.int .i32 (9), .int .i64 1, .bool true]) (by simp [results, Tryz.results68, go_sem]) rfl ⟨rfl, Below.refl _ _⟩

set_option maxRecDepth 100000 in
set_option maxHeartbeats 1000000 in
theorem esc_x_yes (u : ByteArray) (v : Int) (w : World) (hu0 : 0 < u.size) (hus : u.size ≤ 100000) (hb : u[0].toNat = 120)
    (hN : Calls Tryz.prog 102 #[.string (u.extract 1 u.size), .int .i64 2] w fun e w' => e = .returned (.tuple #[.int .i32 v, .bool true]) ∧ Below w.heap.size w w') :
    Calls Tryz.prog 68 #[.string u] w fun e w' => e = .returned (.tuple #[.int .i32 v, .int .i64 3, .bool true]) ∧ Below w.heap.size w w' := by
  have hemp := u_emp hu0
  have hemp2 := u_emp2 hu0
  have n92 : ((u[0].toNat : Int) == 92) = false := by rw [hb]; decide
  have n34 : ((u[0].toNat : Int) == 34) = false := by rw [hb]; decide
  have n110 : ((u[0].toNat : Int) == 110) = false := by rw [hb]; decide
  have n116 : ((u[0].toNat : Int) == 116) = false := by rw [hb]; decide
  have n117 : ((u[0].toNat : Int) == 117) = false := by rw [hb]; decide
  have p120 : ((u[0].toNat : Int) == 120) = true := by rw [hb]; decide
  clear hb
  go_enter Tryz.func68, Tryz.ntmps68
  go_wp2_with (go_at_call 102; refine hN.mono ?_)
  rintro e w1 ⟨rfl, hb⟩
  go_wp2
  refine bodyPost_ret (v := .tuple #[.int .i32 (v), .int .i64 3, .bool true]) (by simp [results, Tryz.results68, go_sem]) rfl ⟨rfl, hb⟩

set_option maxRecDepth 100000 in
set_option maxHeartbeats 1000000 in
theorem esc_x_no (u : ByteArray) (v : Int) (w : World) (hu0 : 0 < u.size) (hus : u.size ≤ 100000) (hb : u[0].toNat = 120)
    (hN : Calls Tryz.prog 102 #[.string (u.extract 1 u.size), .int .i64 2] w fun e w' => e = .returned (.tuple #[.int .i32 v, .bool false]) ∧ Below w.heap.size w w') :
    Calls Tryz.prog 68 #[.string u] w fun e w' => e = .returned (.tuple #[.int .i32 0, .int .i64 0, .bool false]) ∧ Below w.heap.size w w' := by
  have hemp := u_emp hu0
  have hemp2 := u_emp2 hu0
  have n92 : ((u[0].toNat : Int) == 92) = false := by rw [hb]; decide
  have n34 : ((u[0].toNat : Int) == 34) = false := by rw [hb]; decide
  have n110 : ((u[0].toNat : Int) == 110) = false := by rw [hb]; decide
  have n116 : ((u[0].toNat : Int) == 116) = false := by rw [hb]; decide
  have n117 : ((u[0].toNat : Int) == 117) = false := by rw [hb]; decide
  have p120 : ((u[0].toNat : Int) == 120) = true := by rw [hb]; decide
  clear hb
  go_enter Tryz.func68, Tryz.ntmps68
  go_wp2_with (go_at_call 102; refine hN.mono ?_)
  rintro e w1 ⟨rfl, hb⟩
  go_wp2
  refine bodyPost_ret (v := .tuple #[.int .i32 (0), .int .i64 0, .bool false]) (by simp [results, Tryz.results68, go_sem]) rfl ⟨rfl, hb⟩

set_option maxRecDepth 100000 in
set_option maxHeartbeats 1000000 in
theorem esc_u_yes (u : ByteArray) (v : Int) (w : World) (hu0 : 0 < u.size) (hus : u.size ≤ 100000) (hb : u[0].toNat = 117)
    (hN : Calls Tryz.prog 102 #[.string (u.extract 1 u.size), .int .i64 4] w fun e w' => e = .returned (.tuple #[.int .i32 v, .bool true]) ∧ Below w.heap.size w w') :
    Calls Tryz.prog 68 #[.string u] w fun e w' => e = .returned (.tuple #[.int .i32 v, .int .i64 5, .bool true]) ∧ Below w.heap.size w w' := by
  have hemp := u_emp hu0
  have hemp2 := u_emp2 hu0
  have n92 : ((u[0].toNat : Int) == 92) = false := by rw [hb]; decide
  have n34 : ((u[0].toNat : Int) == 34) = false := by rw [hb]; decide
  have n110 : ((u[0].toNat : Int) == 110) = false := by rw [hb]; decide
  have n116 : ((u[0].toNat : Int) == 116) = false := by rw [hb]; decide
  have p117 : ((u[0].toNat : Int) == 117) = true := by rw [hb]; decide
  have n120 : ((u[0].toNat : Int) == 120) = false := by rw [hb]; decide
  clear hb
  go_enter Tryz.func68, Tryz.ntmps68
  go_wp2_with (go_at_call 102; refine hN.mono ?_)
  rintro e w1 ⟨rfl, hb⟩
  go_wp2
  refine bodyPost_ret (v := .tuple #[.int .i32 (v), .int .i64 5, .bool true]) (by simp [results, Tryz.results68, go_sem]) rfl ⟨rfl, hb⟩

set_option maxRecDepth 100000 in
set_option maxHeartbeats 1000000 in
theorem esc_u_no (u : ByteArray) (v : Int) (w : World) (hu0 : 0 < u.size) (hus : u.size ≤ 100000) (hb : u[0].toNat = 117)
    (hN : Calls Tryz.prog 102 #[.string (u.extract 1 u.size), .int .i64 4] w fun e w' => e = .returned (.tuple #[.int .i32 v, .bool false]) ∧ Below w.heap.size w w') :
    Calls Tryz.prog 68 #[.string u] w fun e w' => e = .returned (.tuple #[.int .i32 0, .int .i64 0, .bool false]) ∧ Below w.heap.size w w' := by
  have hemp := u_emp hu0
  have hemp2 := u_emp2 hu0
  have n92 : ((u[0].toNat : Int) == 92) = false := by rw [hb]; decide
  have n34 : ((u[0].toNat : Int) == 34) = false := by rw [hb]; decide
  have n110 : ((u[0].toNat : Int) == 110) = false := by rw [hb]; decide
  have n116 : ((u[0].toNat : Int) == 116) = false := by rw [hb]; decide
  have p117 : ((u[0].toNat : Int) == 117) = true := by rw [hb]; decide
  have n120 : ((u[0].toNat : Int) == 120) = false := by rw [hb]; decide
  clear hb
  go_enter Tryz.func68, Tryz.ntmps68
  go_wp2_with (go_at_call 102; refine hN.mono ?_)
  rintro e w1 ⟨rfl, hb⟩
  go_wp2
  refine bodyPost_ret (v := .tuple #[.int .i32 (0), .int .i64 0, .bool false]) (by simp [results, Tryz.results68, go_sem]) rfl ⟨rfl, hb⟩

set_option maxRecDepth 100000 in
set_option maxHeartbeats 1000000 in
theorem esc_else (u : ByteArray) (w : World) (hu0 : 0 < u.size) (_hus : u.size ≤ 100000) (h1 : u[0].toNat ≠ 92) (h2 : u[0].toNat ≠ 34) (h3 : u[0].toNat ≠ 110) (h4 : u[0].toNat ≠ 116) (h5 : u[0].toNat ≠ 117) (h6 : u[0].toNat ≠ 120) :
    Calls Tryz.prog 68 #[.string u] w fun e w' => e = .returned (.tuple #[.int .i32 0, .int .i64 0, .bool false]) ∧ Below w.heap.size w w' := by
  have hemp := u_emp hu0
  have hemp2 := u_emp2 hu0
  have n92 : ((u[0].toNat : Int) == 92) = false := u_no (c := 92) hu0 h1
  have n34 : ((u[0].toNat : Int) == 34) = false := u_no (c := 34) hu0 h2
  have n110 : ((u[0].toNat : Int) == 110) = false := u_no (c := 110) hu0 h3
  have n116 : ((u[0].toNat : Int) == 116) = false := u_no (c := 116) hu0 h4
  have n117 : ((u[0].toNat : Int) == 117) = false := u_no (c := 117) hu0 h5
  have n120 : ((u[0].toNat : Int) == 120) = false := u_no (c := 120) hu0 h6
  clear h1 h2 h3 h4 h5 h6
  go_enter Tryz.func68, Tryz.ntmps68
  go_wp2
  refine bodyPost_ret (v := .tuple #[.int .i32 (0), .int .i64 0, .bool false]) (by simp [results, Tryz.results68, go_sem]) rfl ⟨rfl, Below.refl _ _⟩

/-- What escape answers of what stands behind place i. -/
def esT (s : ByteArray) (i : Nat) : Value := if (escN s i).2 = 0 then .tuple #[.int .i32 0, .int .i64 0, .bool false] else .tuple #[.int .i32 (escN s i).1, .int .i64 ((escN s i).2 - 1), .bool true]
theorem esT_of {s : ByteArray} {i : Nat} {c m : Int} (h : escN s i = (c, m)) (hm : m ≠ 0) : esT s i = .tuple #[.int .i32 c, .int .i64 (m - 1), .bool true] := by
  unfold esT; rw [h, if_neg hm]
theorem esT_no {s : ByteArray} {i : Nat} (h : escN s i = (0, 0)) : esT s i = .tuple #[.int .i32 0, .int .i64 0, .bool false] := by
  unfold esT; rw [h, if_pos rfl]

theorem escape_prog (s : ByteArray) (i : Nat) (w : World) (hi : i < s.size) (hs : s.size ≤ 100000) (hE : ErrCell w) :
    Calls Tryz.prog 68 #[.string (s.extract (i + 1) s.size)] w fun e w' => e = .returned (esT s i) ∧ Below w.heap.size w w' := by
  have hus : (s.extract (i + 1) s.size).size = s.size - (i + 1) := by simp
  by_cases h1 : i + 1 = s.size
  · rw [esT_no (s := s) (i := i) (by unfold escN; rw [if_pos h1])]
    have he : s.extract (i + 1) s.size = ⟨#[]⟩ := by
      apply ByteArray.ext; apply Array.eq_empty_of_size_eq_zero
      have : (s.extract (i + 1) s.size).data.size = (s.extract (i + 1) s.size).size := rfl
      omega
    rw [he]
    exact esc_empty w
  have h2 : i + 1 < s.size := by omega
  have hb0 := bt_extract s (i + 1) s.size 0 (by omega) (Nat.le_refl _)
  have hn2 := numR_extract (s.extract (i + 1) s.size) 1 0 2 (by omega)
  have hn4 := numR_extract (s.extract (i + 1) s.size) 1 0 4 (by omega)
  rw [numR_extract s (i + 1) (1 + 0) 2 (by omega), show i + 1 + (1 + 0) = i + 2 by omega] at hn2
  rw [numR_extract s (i + 1) (1 + 0) 4 (by omega), show i + 1 + (1 + 0) = i + 2 by omega] at hn4
  obtain ⟨u, hu⟩ : ∃ u, s.extract (i + 1) s.size = u := ⟨_, rfl⟩
  rw [hu] at hb0 hn2 hn4 hus ⊢
  have hu0 : 0 < u.size := by omega
  have hul : u.size ≤ 100000 := by omega
  have hge : u[0].toNat = bt s (i + 1) := (bt_get u 0 hu0).trans hb0
  have hesc : escN s i = if bt s (i + 1) = 92 ∨ bt s (i + 1) = 34 then ((bt s (i + 1) : Int), 2)
      else if bt s (i + 1) = 110 then (10, 2) else if bt s (i + 1) = 116 then (9, 2)
      else if bt s (i + 1) = 120 then (if numR s (i + 2) 2 < 0 then (0, 0) else (numR s (i + 2) 2, 4))
      else if bt s (i + 1) = 117 then (if numR s (i + 2) 4 < 0 ∨ 55296 ≤ numR s (i + 2) 4 ∧ numR s (i + 2) 4 < 57344 then (0, 0) else (numR s (i + 2) 4, 6))
      else (0, 0) := by unfold escN; rw [if_neg h1]
  obtain ⟨b, hbb⟩ : ∃ b, bt s (i + 1) = b := ⟨_, rfl⟩
  rw [hbb] at hesc hge
  by_cases k92 : b = 92
  · rw [if_pos (.inl k92), k92] at hesc
    rw [esT_of hesc (by decide)]
    exact esc_bs u w hu0 hul (hge.trans k92)
  by_cases k34 : b = 34
  · rw [if_pos (.inr k34), k34] at hesc
    rw [esT_of hesc (by decide)]
    exact esc_qu u w hu0 hul (hge.trans k34)
  rw [if_neg (by omega)] at hesc
  by_cases k110 : b = 110
  · rw [if_pos k110] at hesc
    rw [esT_of hesc (by decide)]
    exact esc_n u w hu0 hul (hge.trans k110)
  rw [if_neg k110] at hesc
  by_cases k116 : b = 116
  · rw [if_pos k116] at hesc
    rw [esT_of hesc (by decide)]
    exact esc_t u w hu0 hul (hge.trans k116)
  rw [if_neg k116] at hesc
  by_cases k120 : b = 120
  · rw [if_pos k120] at hesc
    have hr := numR_range s (i + 2) 2
    have h16 : (16 : Int) ^ 2 = 256 := by decide
    rw [h16] at hr
    have hN := number_any' (u.extract 1 u.size) 2 w (by decide) (by decide) hE
    rw [hn2] at hN
    by_cases h0 : numR s (i + 2) 2 < 0
    · rw [if_pos h0] at hesc
      rw [esT_no hesc]
      unfold nuT at hN
      rw [if_pos h0] at hN
      exact esc_x_no u 0 w hu0 hul (hge.trans k120) hN
    · rw [if_neg h0] at hesc
      rw [esT_of hesc (by decide)]
      unfold nuT at hN
      rw [if_neg h0, show (!decide (55296 ≤ numR s (i + 2) 2 ∧ numR s (i + 2) 2 < 57344)) = true by simp; omega] at hN
      exact esc_x_yes u _ w hu0 hul (hge.trans k120) hN
  rw [if_neg k120] at hesc
  by_cases k117 : b = 117
  · rw [if_pos k117] at hesc
    have hN := number_any' (u.extract 1 u.size) 4 w (by decide) (by decide) hE
    rw [hn4] at hN
    by_cases h0 : numR s (i + 2) 4 < 0
    · rw [if_pos (.inl h0)] at hesc
      rw [esT_no hesc]
      unfold nuT at hN
      rw [if_pos h0] at hN
      exact esc_u_no u 0 w hu0 hul (hge.trans k117) hN
    unfold nuT at hN
    rw [if_neg h0] at hN
    by_cases h3 : 55296 ≤ numR s (i + 2) 4 ∧ numR s (i + 2) 4 < 57344
    · rw [if_pos (.inr h3)] at hesc
      rw [esT_no hesc]
      rw [decide_eq_true h3] at hN
      exact esc_u_no u _ w hu0 hul (hge.trans k117) hN
    · rw [if_neg (by omega)] at hesc
      rw [esT_of hesc (by decide)]
      rw [decide_eq_false h3] at hN
      exact esc_u_yes u _ w hu0 hul (hge.trans k117) hN
  rw [if_neg k117] at hesc
  rw [esT_no hesc]
  exact esc_else u w hu0 hul (by omega) (by omega) (by omega) (by omega) (by omega) (by omega)
end Go.Proofs.YtnnnanemefcmdaaGreatDoor
namespace Go.Proofs.YtnnnanemefcmdaaGreatDoor
open Go.RowKit

/-- What ReadDouble answers where the first mark stands. -/
def dblT (s : ByteArray) (p : Nat) : Value := match rdD s s.size (p + 1) with
  | .done l n => gotT l p n
  | .bad i => .tuple #[.string ⟨#[]⟩, .int .i64 0, .agg #[.int .i64 6, .int .i64 i]]
  | .cut => .tuple #[.string ⟨#[]⟩, .int .i64 0, .agg #[.int .i64 3, .int .i64 s.size]]
theorem rune_enc (c : Nat) (h1 : c ≤ 1114111) (h2 : ¬ (55296 ≤ c ∧ c ≤ 57343)) : Lib.runeCells (c : Int) = Lib.byteCells (encB c) := by
  rw [← Lib.byteCells_encodeRune]
  congr 1
  unfold Lib.encodeRune encB
  by_cases k1 : c < 128
  · rw [if_pos k1, Lib.encodeRuneZ_one (by omega) (by omega)]; simp
  rw [if_neg k1]
  by_cases k2 : c < 2048
  · rw [if_pos k2, Lib.encodeRuneZ_two (by omega) (by omega)]
    simp only [List.map_cons, List.map_nil, List.cons.injEq, and_true]
    exact ⟨by rw [show (192 + (c : Int) / 64).toNat = 192 + c / 64 by omega], by rw [show (128 + (c : Int) % 64).toNat = 128 + c % 64 by omega]⟩
  rw [if_neg k2]
  by_cases k3 : c < 65536
  · rw [if_pos k3, Lib.encodeRuneZ_three (by omega)]
    simp only [List.map_cons, List.map_nil, List.cons.injEq, and_true]
    exact ⟨by rw [show (224 + (c : Int) / 4096).toNat = 224 + c / 4096 by omega], by rw [show (128 + (c : Int) / 64 % 64).toNat = 128 + c / 64 % 64 by omega], by rw [show (128 + (c : Int) % 64).toNat = 128 + c % 64 by omega]⟩
  rw [if_neg k3, Lib.encodeRuneZ_four (by omega) (by omega)]
  simp only [List.map_cons, List.map_nil, List.cons.injEq, and_true]
  exact ⟨by rw [show (240 + (c : Int) / 262144).toNat = 240 + c / 262144 by omega], by rw [show (128 + (c : Int) / 4096 % 64).toNat = 128 + c / 4096 % 64 by omega], by rw [show (128 + (c : Int) / 64 % 64).toNat = 128 + c / 64 % 64 by omega], by rw [show (128 + (c : Int) % 64).toNat = 128 + c % 64 by omega]⟩
theorem esc_valid {s : ByteArray} {i : Nat} (h : (escN s i).2 ≠ 0) : ¬ (55296 ≤ (escN s i).1 ∧ (escN s i).1 ≤ 57343) := by
  have hb := bt_lt s (i + 1)
  have r2 := numR_range s (i + 2) 2
  have p2 : (16 : Int) ^ 2 = 256 := by decide
  revert h
  unfold escN
  split
  · intro h; exact absurd rfl h
  · split
    · intro _; simp; omega
    · split
      · intro _; simp
      · split
        · intro _; simp
        · split
          · split
            · intro h; exact absurd rfl h
            · intro _; simp only; omega
          · split
            · split
              · intro h; exact absurd rfl h
              · intro _; simp only; omega
            · intro h; exact absurd rfl h
set_option maxRecDepth 100000 in
set_option maxHeartbeats 4000000 in
theorem readDouble_no (s : ByteArray) (p : Int) (w : World) (h : p < 0 ∨ (s.size : Int) ≤ p ∨ ∃ (i : Nat) (_ : i < s.size), p = i ∧ bt s i ≠ 34) :
    Calls Tryz.prog 30 #[.string s, .int .i64 p] w fun e w' => e = .returned (.tuple #[.string ⟨#[]⟩, .int .i64 0, .agg #[.int .i64 3, .int .i64 p]]) ∧ Below w.heap.size w w' := by
  have HST : ∀ w : World, Calls Tryz.prog 46 #[.string s, .int .i64 p, .int .u8 34] w fun e w' => e = .returned (.bool false) ∧ w = w' := by
    intro w
    rcases h with h | h | ⟨i, hi, rfl, hb⟩
    · exact stands_neg s p 34 w h
    · exact stands_past s p 34 w h
    · have := stands_in s i 34 w hi
      rwa [decide_eq_false hb] at this
  clear h
  go_enter Tryz.func30, Tryz.ntmps30
  go_wp2_with fail
  refine (HST _).mono ?_
  rintro e w0 ⟨rfl, rfl⟩
  go_wp2_with fail
  refine (wrong_any _ _ _).mono ?_
  rintro e w1 ⟨rfl, hb⟩
  have hr1 := (hb.block w.heap.size (by simp)).trans (heap_alloc_new w _)
  have rc0 := cell_heap4 hr1 0 _ rfl
  have rc1 := cell_heap4 hr1 1 _ rfl
  have rf0 := free_heap4 hr1 0
  have rf1 := free_heap4 hr1 1
  have hB := ((Below.refl w.heap.size w).alloc (Nat.le_refl _) _).trans (hb.mono (by simp))
  clear hr1 hb
  go_wp2
  refine bodyPost_ret (v := .tuple #[.string ⟨#[]⟩, .int .i64 0, .agg #[.int .i64 3, .int .i64 p]]) (by simp [results, Tryz.results30, go_sem, rc0, rc1]) rfl ⟨rfl, ?_⟩
  exact (hB.setCell (p := ⟨w.heap.size, 0, none⟩) (Nat.le_refl _) _).setCell (p := ⟨w.heap.size, 1, none⟩) (Nat.le_refl _) _
set_option maxRecDepth 100000 in
set_option maxHeartbeats 8000000 in
theorem readDouble_yes (s : ByteArray) (p : Nat) (w : World) (hs : s.size ≤ 100000) (hp0 : p < s.size) (h34 : bt s p = 34) (hE : ErrCell w) :
    Calls Tryz.prog 30 #[.string s, .int .i64 p] w fun e w' => e = .returned (dblT s p) ∧ Below w.heap.size w w' := by
  have HST := stands_any s p 34
  have hst : stB s p 34 = true := decide_eq_true ⟨hp0, h34⟩
  rw [hst] at HST
  have hI0 := Lib.IsBuilderF.of (Lib.fresh_isBuilder 80 5 (w.alloc (.cells #[.int .i64 0, .int .i64 0] 27)))
  have hz1 : (w.alloc (.cells #[.int .i64 0, .int .i64 0] 27)).heap.size = w.heap.size + 1 := by simp
  rw [hz1] at hI0
  clear hst h34
  go_enter Tryz.func30, Tryz.ntmps30
  go_wp2_with fail
  refine (HST _).mono ?_
  rintro e w0 ⟨rfl, rfl⟩
  clear HST
  go_wp2
  go_loopw [8] (fun j wr => ∃ (i f : Nat) (o : List UInt8), j = .int .i64 i ∧ i ≤ s.size ∧ s.size ≤ i + f ∧ o.length ≤ 4 * i ∧ Hid ((rdD s f i).pre o = rdD s s.size (p + 1)) ∧ Lib.IsBuilderF 80 5 (w.heap.size + 1) (w.heap.size + 1) (Lib.byteCells o) wr ∧ Below w.heap.size w wr ∧ Hid (wr.heap[w.heap.size]? = some (.cells #[.int .i64 0, .int .i64 0] 27)) ∧ w.heap.size + 1 < wr.heap.size) (fun j _ => s.size - (intOf j).toNat)
  case atStart => exact ⟨p + 1, s.size, [], by go_num, by omega, by omega, by simp, Lib.hid (DOut.pre_nil _), hI0, ((Below.refl _ _).alloc (Nat.le_refl _) _).alloc (by simp) _, Lib.hid ((Lib.alloc_old _ _ _ (by simp)).trans (heap_alloc_new w _)), by simp⟩
  case round =>
    obtain ⟨i, f, o, rfl, hi', hf, hol, hpp, hI, hb, hres, hwl1⟩ := hrel
    have hwl : w.heap.size < wr.heap.size := by omega
    by_cases hlt : i < s.size
    · obtain ⟨f, rfl⟩ : ∃ g, f = g + 1 := ⟨f - 1, by omega⟩
      have hsz0 : w.heap.size + 1 ≤ wr.heap.size := by omega
      have hbg := bt_get s i hlt
      by_cases h34 : bt s i = 34
      · have q1 : ((s[i].toNat : Int) == 34) = true := by simp only [beq_iff_eq]; omega
        have HS := Lib.hid (show dblT s p = gotT o p ((i + 1 : Nat) : Int) by unfold dblT; rw [← hpp.out, rdD_stop hlt h34]; simp [DOut.pre])
        clear hpp h34 hbg
        go_wp2_with (go_at_call 49; refine (Tryz.Builder_String_any_k (w.heap.size + 1) (w.heap.size + 1) o _ hI hsz0).mono ?_)
        rintro e w2 ⟨rfl, _, b2, _⟩
        have hb2 := hb.trans (b2.mono (Nat.le_succ _))
        have hr2 := (b2.block w.heap.size (Nat.lt_succ_self _)).trans hres.out
        have hw2 : w.heap.size < w2.heap.size := (Array.getElem?_eq_some_iff.1 hr2).1
        have HR2 := Lib.hid hr2
        clear b2 hr2
        by_cases h1024 : 1024 < o.length
        · have HG := Lib.hid (show gotT o p ((i + 1 : Nat) : Int) = .tuple #[.string ⟨#[]⟩, .int .i64 0, .agg #[.int .i64 5, .int .i64 p]] by unfold gotT; rw [if_pos h1024])
          go_wp2_with fail
          refine (read_any o p ((i + 1 : Nat) : Int) w2 (by omega)).mono ?_
          rintro x w3 ⟨rfl, hb3⟩
          rw [HG.out]
          have hr3 := (hb3.block w.heap.size hw2).trans HR2.out
          have rc0 := cell_heap4 hr3 0 _ rfl
          have rc1 := cell_heap4 hr3 1 _ rfl
          have rf0 := free_heap4 hr3 0
          have rf1 := free_heap4 hr3 1
          have hB := hb2.trans (hb3.mono hb2.size)
          clear hr3 hb3
          go_wp2
          refine bodyPost_ret (v := .tuple #[.string ⟨#[]⟩, .int .i64 0, .agg #[.int .i64 5, .int .i64 p]]) (by simp [results, Tryz.results30, go_sem, rc0, rc1]) rfl ⟨by rw [HS.out, HG.out], ?_⟩
          exact (hB.setCell (p := ⟨w.heap.size, 0, none⟩) (Nat.le_refl _) _).setCell (p := ⟨w.heap.size, 1, none⟩) (Nat.le_refl _) _
        · have HG := Lib.hid (show gotT o p ((i + 1 : Nat) : Int) = .tuple #[.string ⟨o.toArray⟩, .int .i64 ((i + 1 : Nat) : Int), .agg #[.int .i64 0, .int .i64 0]] by unfold gotT; rw [if_neg h1024])
          go_wp2_with fail
          refine (read_any o p ((i + 1 : Nat) : Int) w2 (by omega)).mono ?_
          rintro x w3 ⟨rfl, hb3⟩
          rw [HG.out]
          have hr3 := (hb3.block w.heap.size hw2).trans HR2.out
          have rc0 := cell_heap4 hr3 0 _ rfl
          have rc1 := cell_heap4 hr3 1 _ rfl
          have rf0 := free_heap4 hr3 0
          have rf1 := free_heap4 hr3 1
          have hB := hb2.trans (hb3.mono hb2.size)
          clear hr3 hb3
          go_wp2
          refine bodyPost_ret (v := .tuple #[.string ⟨o.toArray⟩, .int .i64 ((i + 1 : Nat) : Int), .agg #[.int .i64 0, .int .i64 0]]) (by simp [results, Tryz.results30, go_sem, rc0, rc1]) rfl ⟨by rw [HS.out, HG.out], ?_⟩
          exact (hB.setCell (p := ⟨w.heap.size, 0, none⟩) (Nat.le_refl _) _).setCell (p := ⟨w.heap.size, 1, none⟩) (Nat.le_refl _) _
      have q1 : ((s[i].toNat : Int) == 34) = false := by simp only [beq_eq_false_iff_ne, ne_eq]; omega
      by_cases h92 : bt s i = 92
      · have q2 : ((s[i].toNat : Int) == 92) = true := by simp only [beq_iff_eq]; omega
        have hX := escape_prog s i wr hlt hs (err_below hE hb)
        by_cases h0 : (escN s i).2 = 0
        · have he : esT s i = .tuple #[.int .i32 0, .int .i64 0, .bool false] := by unfold esT; rw [if_pos h0]
          rw [he] at hX
          have HS := Lib.hid (show dblT s p = .tuple #[.string ⟨#[]⟩, .int .i64 0, .agg #[.int .i64 6, .int .i64 i]] by
            unfold dblT; rw [← hpp.out, rdD_bad hlt h92 h0]; rfl)
          clear hpp h92 h34 hbg he h0 hI
          go_wp2_with (go_at_call 68; refine hX.mono ?_)
          rintro e w1 ⟨rfl, hb1⟩
          have hres1 := Lib.hid ((hb1.block w.heap.size hwl).trans hres.out)
          have hwl2 : w.heap.size < w1.heap.size := by have := hb1.size; omega
          have hbb := hb.trans (hb1.mono hb.size)
          clear hb1 hres hb
          go_wp2_with fail
          refine (wrong_any _ _ _).mono ?_
          rintro x w3 ⟨rfl, hb3⟩
          have hr3 := (hb3.block w.heap.size hwl2).trans hres1.out
          have rc0 := cell_heap4 hr3 0 _ rfl
          have rc1 := cell_heap4 hr3 1 _ rfl
          have rf0 := free_heap4 hr3 0
          have rf1 := free_heap4 hr3 1
          have hB := hbb.trans (hb3.mono hbb.size)
          clear hr3 hb3
          go_wp2
          refine bodyPost_ret (v := .tuple #[.string ⟨#[]⟩, .int .i64 0, .agg #[.int .i64 6, .int .i64 i]]) (by simp [results, Tryz.results30, go_sem, rc0, rc1]) rfl ⟨by rw [HS.out], ?_⟩
          exact (hB.setCell (p := ⟨w.heap.size, 0, none⟩) (Nat.le_refl _) _).setCell (p := ⟨w.heap.size, 1, none⟩) (Nat.le_refl _) _
        · have he : esT s i = .tuple #[.int .i32 (escN s i).1, .int .i64 ((escN s i).2 - 1), .bool true] := by unfold esT; rw [if_neg h0]
          rw [he] at hX
          have hv := esc_valid h0
          rcases esc_range hlt with hz | ⟨m2, m6, c0, c1, hle⟩
          · exact absurd hz h0
          have hesc := rdD_esc (f := f) hlt h92 h0
          obtain ⟨cm, hcm⟩ : ∃ cm, escN s i = cm := ⟨_, rfl⟩
          rw [hcm] at hX hv m2 m6 c0 c1 hle hesc
          obtain ⟨c', m'⟩ := cm
          simp only at hX hv m2 m6 c0 c1 hle hesc
          obtain ⟨c, rfl⟩ : ∃ c : Nat, c' = c := ⟨c'.toNat, by omega⟩
          obtain ⟨m, rfl⟩ : ∃ m : Nat, m' = m := ⟨m'.toNat, by omega⟩
          simp only [Int.toNat_natCast] at hle hesc
          have HP := Lib.hid (show (rdD s f (i + m)).pre (o ++ encB c) = rdD s s.size (p + 1) by rw [← hpp.out, hesc, DOut.pre_pre])
          have hrc := rune_enc c (by omega) (by omega)
          have hel := encB_len c
          have cz0 : (-2147483648 : Int) ≤ c := by omega
          have cz1 : (c : Int) ≤ 2147483647 := by omega
          have mz : 2 ≤ m := by omega
          have mz6 : m ≤ 6 := by omega
          clear hpp h92 h34 hbg he h0 hcm hesc hv m2 m6 c0 c1
          go_wp2_with (go_at_call 68; refine hX.mono ?_)
          rintro e w1 ⟨rfl, hb1⟩
          have hI1 := isB_below hI hb1
          have hres1 := Lib.hid ((hb1.block w.heap.size hwl).trans hres.out)
          have hsz1 : w.heap.size + 1 ≤ w1.heap.size := by have := hb1.size; omega
          have hbb := hb.trans (hb1.mono hb.size)
          clear hb1 hres hb hI hX
          go_wp2_with (go_at_call 69; refine (Tryz.Builder_WriteRune_k (w.heap.size + 1) (w.heap.size + 1) _ _ cz0 cz1 _ hI1 (by rw [Lib.byteCells_length]; omega) hsz1).mono ?_)
          rintro e w2 ⟨rfl, h2, b2, _⟩
          have hI2 : Lib.IsBuilderF 80 5 (w.heap.size + 1) (w.heap.size + 1) (Lib.byteCells (o ++ encB c)) w2 := by rw [Lib.byteCells_append, ← hrc]; exact .inr h2
          have hb2 := hbb.trans (b2.mono (Nat.le_succ _))
          have hres2 := Lib.hid ((b2.block w.heap.size (Nat.lt_succ_self _)).trans hres1.out)
          have hw2 : w.heap.size + 1 < w2.heap.size := isB_lt hI2
          clear b2 h2
          go_wp2
          go_roundw
          case rel => exact ⟨i + m, f, o ++ encB c, by go_num, by omega, by omega, by simp; omega, HP, hI2, hb2, hres2, hw2⟩
          case measure => simp [intOf]; omega
      · have q2 : ((s[i].toNat : Int) == 92) = false := by simp only [beq_eq_false_iff_ne, ne_eq]; omega
        have HP := Lib.hid (show (rdD s f (i + 1)).pre (o ++ [s[i]]) = rdD s s.size (p + 1) by
          rw [← hpp.out, rdD_one hlt h34 h92, DOut.pre_pre])
        clear hpp h92 h34 hbg
        go_wp2_with (go_at_call 50; refine (Tryz.Builder_WriteByte_k (w.heap.size + 1) (w.heap.size + 1) _ _ _ hI (by rw [Lib.byteCells_length]; omega) hsz0).mono ?_)
        rintro e w2 ⟨rfl, h2, b2, _⟩
        have hI2 : Lib.IsBuilderF 80 5 (w.heap.size + 1) (w.heap.size + 1) (Lib.byteCells (o ++ [s[i]])) w2 := by rw [Lib.byteCells_append]; exact .inr h2
        have hb2 := hb.trans (b2.mono (Nat.le_succ _))
        have hres2 := Lib.hid ((b2.block w.heap.size (Nat.lt_succ_self _)).trans hres.out)
        have hw2 : w.heap.size + 1 < w2.heap.size := isB_lt hI2
        clear b2 h2
        go_wp2
        go_roundw
        case rel => exact ⟨i + 1, f, o ++ [s[i]], by go_num, by omega, by omega, by simp; omega, HP, hI2, hb2, hres2, hw2⟩
        case measure => simp [intOf]; omega
    · have HS := Lib.hid (show dblT s p = .tuple #[.string ⟨#[]⟩, .int .i64 0, .agg #[.int .i64 3, .int .i64 s.size]] by
        unfold dblT; rw [← hpp.out, rdD_end s f i (by omega)]; rfl)
      clear hpp
      go_wp2_with fail
      refine (wrong_any _ _ _).mono ?_
      rintro x w3 ⟨rfl, hb3⟩
      have hr3 := (hb3.block w.heap.size hwl).trans hres.out
      have rc0 := cell_heap4 hr3 0 _ rfl
      have rc1 := cell_heap4 hr3 1 _ rfl
      have rf0 := free_heap4 hr3 0
      have rf1 := free_heap4 hr3 1
      have hB := hb.trans (hb3.mono hb.size)
      clear hr3 hb3
      go_wp2
      refine bodyPost_ret (v := .tuple #[.string ⟨#[]⟩, .int .i64 0, .agg #[.int .i64 3, .int .i64 s.size]]) (by simp [results, Tryz.results30, go_sem, rc0, rc1]) rfl ⟨by rw [HS.out], ?_⟩
      exact (hB.setCell (p := ⟨w.heap.size, 0, none⟩) (Nat.le_refl _) _).setCell (p := ⟨w.heap.size, 1, none⟩) (Nat.le_refl _) _
end Go.Proofs.YtnnnanemefcmdaaGreatDoor
namespace Go.Proofs.YtnnnanemefcmdaaGreatDoor
open Go.RowKit

/-- One token's step: the last place, the closes that are wanted. -/
def nsS (sz : Nat) (st : Int × List Nat) (x : Tk) : Option (Int × List Nat) :=
  if (x.2.1 : Int) ≤ st.1 ∨ sz ≤ x.2.1 then none
  else if x.1 = 4 ∨ x.1 = 6 then some (x.2.1, st.2 ++ [x.1 + 1])
  else if x.1 = 5 ∨ x.1 = 7 then (if st.2.getLast? = some x.1 then some (x.2.1, st.2.dropLast) else none)
  else if x.1 = 3 then (if st.2 = [] then none else some (x.2.1, st.2))
  else if x.1 = 1 ∨ x.1 = 13 then (if st.2 = [] then some (x.2.1, st.2) else none)
  else some (x.2.1, st.2)
def nsF (sz : Nat) : Int × List Nat → List Tk → Option (Int × List Nat)
  | st, [] => some st
  | st, x :: l => (nsS sz st x).bind fun st' => nsF sz st' l
theorem nsF_snoc (sz : Nat) (l : List Tk) (x : Tk) : ∀ st, nsF sz st (l ++ [x]) = (nsF sz st l).bind fun st' => nsS sz st' x := by
  induction l with
  | nil => intro st; show (nsS sz st x).bind _ = _; cases h : nsS sz st x <;> simp [nsF, h]
  | cons y l ih =>
    intro st
    show (nsS sz st y).bind _ = ((nsS sz st y).bind _).bind _
    cases nsS sz st y with
    | none => rfl
    | some st' => exact ih st'
def clK (op : List UInt8) : List Nat := op.map fun c => if c = 93 then 5 else 7
theorem nsS_tok {s : ByteArray} {i : Nat} {op : List UInt8} {last : Nat} {x : On} (hT : Tok1 s i op last x) {la : Int} (hla : la < i) (hi : i < s.size) : nsS s.size (la, clK op) (x.k, x.a, x.t) = some ((i : Int), clK x.o) := by
  have ha : ¬ ((x.a : Int) ≤ la ∨ s.size ≤ x.a) := by rw [hT.at_]; omega
  unfold nsS
  simp only
  rw [if_neg ha, hT.at_]
  rcases hT.fl with ⟨k, o⟩ | ⟨k, o⟩ | ⟨k, r, e, o⟩ | ⟨k, r, e, o⟩ | ⟨k, e, o⟩ | ⟨k, e, o⟩ | ⟨k, o⟩
  · rw [if_pos (.inl k), k, o]; simp [clK]
  · rw [if_pos (.inr k), k, o]; simp [clK]
  · rw [if_neg (by omega), if_pos (.inl k), k, o, e]
    rw [if_pos (by simp [clK])]
    simp [clK]
  · rw [if_neg (by omega), if_pos (.inr k), k, o, e]
    rw [if_pos (by simp [clK])]
    simp [clK]
  · rw [if_neg (by omega), if_neg (by omega), if_pos k, if_neg (by simpa [clK] using e), o]
  · rw [if_neg (by omega), if_neg (by omega), if_neg (by omega), if_pos k, e, o]
    rw [if_pos (by simp [clK])]
  · rw [if_neg (by omega), if_neg (by omega), if_neg (by omega), if_neg (by omega), o]
theorem rwF_nests (s : ByteArray) (f : Nat) : ∀ i op last out la, i ≤ s.size → s.size < i + f → nsF s.size (-1, []) out = some (la, clK op) → la < (i : Int) → (rwF s f i op last out).2.1 = 0 → ∃ la', nsF s.size (-1, []) (rwF s f i op last out).1 = some (la', []) := by
  induction f with
  | zero => intro i op last out la h1 h2; omega
  | succ f ih =>
    intro i op last out la h1 h2 h3 h4 h5
    rw [rwF] at h5 ⊢
    split at h5
    · rename_i hi
      rw [if_pos hi]
      split at h5
      · rename_i h32
        rw [if_pos h32]
        exact ih _ _ _ _ la (by omega) (by omega) h3 (by omega) h5
      · rename_i h32
        rw [if_neg h32]
        split at h5
        · rename_i hc; exact absurd h5 hc
        · rename_i hc
          rw [if_neg hc]
          have hc0 : (rdO s i op last).c = 0 := Decidable.byContradiction hc
          have hT := rdO_tok hi.1 hc0
          split at h5
          · cases h5
          · rename_i ht
            rw [if_neg ht]
            refine ih _ _ _ _ (i : Int) hT.le (by have := hT.gt; omega) ?_ (by have := hT.gt; omega) h5
            rw [nsF_snoc, h3]
            exact nsS_tok hT h4 hi.1
    · rename_i hi
      rw [if_neg hi]
      split at h5
      · cases h5
      · rename_i ho
        rw [if_neg ho]
        have ho0 : op = [] := Decidable.byContradiction ho
        subst ho0
        exact ⟨la, h3⟩
theorem rwT_nests (s : ByteArray) (h : (rwT s).2.1 = 0) : ∃ la, nsF s.size (-1, []) (rwT s).1 = some (la, []) :=
  rwF_nests s (s.size + 1) 0 [] 0 [] (-1) (by omega) (by omega) rfl (by omega) h
end Go.Proofs.YtnnnanemefcmdaaGreatDoor
