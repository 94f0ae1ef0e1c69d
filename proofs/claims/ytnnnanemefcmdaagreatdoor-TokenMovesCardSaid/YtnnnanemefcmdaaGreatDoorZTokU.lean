/- The walk of the document's Row (layer 7). -/
import Derived.Test.YtnnnanemefcmdaaGreatDoorZL2a
import Derived.Test.YtnnnanemefcmdaaGreatDoorZL1b
import Derived.Test.YtnnnanemefcmdaaGreatDoorZL0a
namespace Go.Proofs.YtnnnanemefcmdaaGreatDoor
open Go.RowKit

/-- A token's three cells, its place moved by a base. -/
def tkR (base : Int) (x : Tk) : List Value := [.int .i64 (x.1 : Nat), .int .i64 ((x.2.1 : Nat) + base), .string ⟨x.2.2.toArray⟩]
/-- The place of what is wrong, moved by a base; none: 0. -/
def atI (base : Int) (r : List Tk × Nat × Nat) : Int := if r.2.1 = 0 then 0 else base + (r.2.2 : Nat)
/-- What the document's Row comes to. -/
def RowR (base : Int) (r : List Tk × Nat × Nat) (w : World) (e : Ending) (w' : World) : Prop :=
  ∃ v, e = .returned (.tuple #[v, .int .i64 (r.2.1 : Nat), .int .i64 (atI base r)]) ∧ w'.ownsRow w.heap.size 41 3 v r.1.length (r.1.flatMap (tkR base)) ∧ Below w.heap.size w w'
theorem rowR_bad {base : Int} {r : List Tk × Nat × Nat} {w w' : World} {c p : Nat} {x : Int} (h : r = ([], c, p)) (hc : c ≠ 0) (hx : x = base + (p : Nat)) (hb : Below w.heap.size w w') :
    RowR base r w (.returned (.tuple #[.slice none 0 0, .int .i64 (c : Nat), .int .i64 x])) w' := by
  subst h hx
  exact ⟨.slice none 0 0, by unfold atI; rw [if_neg hc], World.ownsRow_nil _ _ _ _, hb⟩
theorem rowR_ok {base : Int} {r : List Tk × Nat × Nat} {w w' : World} {out : List Tk} {v : Value} (h : r = (out, 0, 0)) (ho : w'.ownsRow w.heap.size 41 3 v out.length (out.flatMap (tkR base))) (hb : Below w.heap.size w w') :
    RowR base r w (.returned (.tuple #[v, .int .i64 0, .int .i64 0])) w' := by
  subst h
  exact ⟨v, rfl, ho, hb⟩
theorem rwF_end {s : ByteArray} {f i : Nat} {op : List UInt8} {last : Nat} {out : List Tk} (h : ¬ (i < s.size ∧ ¬ (bt s i = 35 ∧ (i = 0 ∨ bt s (i - 1) = 32)))) : rwF s (f + 1) i op last out = if op ≠ [] then ([], 3, s.size) else (out, 0, 0) := by rw [rwF, if_neg h]
theorem rwF_blank {s : ByteArray} {f i : Nat} {op : List UInt8} {last : Nat} {out : List Tk} (h : i < s.size) (h32 : bt s i = 32) : rwF s (f + 1) i op last out = rwF s f (i + 1) op last out := by
  rw [rwF, if_pos ⟨h, fun e => by omega⟩, if_pos h32]
/-- Is what stands right behind a token of that kind asked? -/
def asks (k : Nat) : Prop := 8 ≤ k ∧ k ≠ 11 ∨ k = 5 ∨ k = 7
theorem rwF_bad {s : ByteArray} {f i : Nat} {op : List UInt8} {last : Nat} {out : List Tk} (h : i < s.size) (h32 : bt s i ≠ 32) (h35 : ¬ (bt s i = 35 ∧ (i = 0 ∨ bt s (i - 1) = 32))) {x : On} (hx : rdO s i op last = x) (hc : x.c ≠ 0) : rwF s (f + 1) i op last out = ([], x.c, x.p) := by
  subst hx; rw [rwF, if_pos ⟨h, h35⟩, if_neg h32, if_pos hc]
theorem rwF_loose {s : ByteArray} {f i : Nat} {op : List UInt8} {last : Nat} {out : List Tk} (h : i < s.size) (h32 : bt s i ≠ 32) (h35 : ¬ (bt s i = 35 ∧ (i = 0 ∨ bt s (i - 1) = 32))) {x : On} (hx : rdO s i op last = x) (hc : x.c = 0) (hk : asks x.k) (ht : tiB s x.n x.o = false) : rwF s (f + 1) i op last out = ([], 3, x.n) := by
  subst hx; rw [rwF, if_pos ⟨h, h35⟩, if_neg h32, if_neg (fun e => e hc), if_pos ⟨hk, ht⟩]
theorem rwF_step {s : ByteArray} {f i : Nat} {op : List UInt8} {last : Nat} {out : List Tk} (h : i < s.size) (h32 : bt s i ≠ 32) (h35 : ¬ (bt s i = 35 ∧ (i = 0 ∨ bt s (i - 1) = 32))) {x : On} (hx : rdO s i op last = x) (hc : x.c = 0) (hk : ¬ asks x.k ∨ tiB s x.n x.o = true) : rwF s (f + 1) i op last out = rwF s f x.n x.o x.k (out ++ [(x.k, x.a, x.t)]) := by
  subst hx; rw [rwF, if_pos ⟨h, h35⟩, if_neg h32, if_neg (fun e => e hc), if_neg]
  rintro ⟨h1, h2⟩
  rcases hk with hk | hk
  · exact hk h1
  · rw [hk] at h2; cases h2
theorem infoRT : (Tryz.prog.info? 41).map (fun i => (i.zero, i.size, i.bytes)) = some (some (.agg #[.int .i64 0, .int .i64 0, .string ⟨#[]⟩]), 3, 32) := by kernel_rfl
theorem cells_new1 (w : World) (X : Obj) (cs : List Value) (t : TypeId) (j : Nat) (u : Value) (h : cs[j]? = some u) :
    ((w.alloc X).alloc (.cells cs.toArray t)).cell? ((⟨w.heap.size + 1, 0, none⟩ : Addr).add j) = some u := by
  have := cells_new (w.alloc X) cs t j u h
  simpa using this
/-- One round of the document's Row behind its read, and its end: what it has so far. -/
structure RowAt (s : ByteArray) (base : Int) (w : World) (v : Value) (f i : Nat) (op : List UInt8) (last : Nat) (out : List Tk) (wr : World) : Prop where
  le : i ≤ s.size
  fu : s.size < i + f
  ol : out.length ≤ i
  pl : op.length ≤ i
  ll : last ≤ 13
  eq : rwF s f i op last out = rwT s
  own : wr.ownsRow w.heap.size 41 3 v out.length (out.flatMap (tkR base))
  bel : Below w.heap.size w wr
set_option maxRecDepth 100000 in
set_option maxHeartbeats 8000000 in
theorem refRow_any (s : ByteArray) (base : Int) (w : World) (hs : s.size ≤ 3000) (hb1 : -2199023255552 ≤ base) (hb2 : base ≤ 2199023255552) :
    Calls Tryz.prog 9 #[.string s, .int .i64 base] w (RowR base (rwT s) w) := by
  obtain ⟨i0, hi, hz0, hz1, hz2⟩ := info_parts infoRT
  have hmx : (1000000 : Nat) ≤ maxLen := by decide
  go_enter Tryz.func9, Tryz.ntmps9
  go_wp2
  go_loopw [7, 8, 9, 10] (fun u o l i wr => ∃ (v : Value) (f j : Nat) (op : List UInt8) (last : Nat) (out : List Tk), v = u ∧ i = .int .i64 j ∧ o = .string ⟨op.toArray⟩ ∧ l = .int .i64 last ∧ Hid (RowAt s base w v f j op last out wr)) (fun _ _ _ i _ => s.size - (intOf i).toNat)
  case atStart => exact ⟨.slice none 0 0, s.size + 1, 0, [], 0, [], rfl, rfl, rfl, rfl, Lib.hid ⟨by omega, by omega, by simp, by simp, by omega, rfl, World.ownsRow_nil _ _ _ _, Below.refl _ _⟩⟩
  case round =>
    obtain ⟨v, f, i, op, last, out, rfl, rfl, rfl, rfl, hA⟩ := hrel
    have hle := hA.out.le
    have hfu := hA.out.fu
    obtain ⟨f, rfl⟩ : ∃ g, f = g + 1 := ⟨f - 1, by omega⟩
    have hfin : ∀ (_ : ¬ (i < s.size ∧ ¬ (bt s i = 35 ∧ (i = 0 ∨ bt s (i - 1) = 32)))), (op = [] → rwT s = (out, 0, 0)) ∧ (op ≠ [] → rwT s = ([], 3, s.size)) := fun hn => by
      have he := hA.out.eq
      rw [rwF_end hn] at he
      exact ⟨fun e => by rw [← he, if_neg (fun h => h e)], fun e => by rw [← he, if_pos e]⟩
    by_cases hlt : i < s.size
    · by_cases h32 : bt s i = 32
      · have q32 : ((s[i].toNat : Int) == 32) = true := (eq_true (c := 32) hlt h32).2
        have HN := Lib.hid (show RowAt s base w v f (i + 1) op last out wr from ⟨by omega, by omega, by have := hA.out.ol; omega, by have := hA.out.pl; omega, hA.out.ll, by rw [← hA.out.eq, rwF_blank hlt h32], hA.out.own, hA.out.bel⟩)
        clear hfin hA h32
        go_wp2
        go_roundw
        case rel => exact ⟨v, f, i + 1, op, last, out, rfl, by go_num, rfl, rfl, HN⟩
        case measure => simp [intOf]; omega
      · have q32 : ((s[i].toNat : Int) == 32) = false := (ne_true (c := 32) hlt h32).2
        by_cases h35 : bt s i = 35 ∧ (i = 0 ∨ bt s (i - 1) = 32)
        · obtain ⟨hfa, hfb⟩ := hfin (fun e => e.2 h35)
          have hown := Lib.hid hA.out.own
          have hbel := Lib.hid hA.out.bel
          have q35 : ((s[i].toNat : Int) == 35) = true := (eq_true (c := 35) hlt h35.1).2
          obtain ⟨h35a, h35b⟩ := h35
          clear hfin hA h32 h35a
          rcases Nat.eq_zero_or_pos i with rfl | hpos
          all_goals skip
          · clear h35b
            cases op with
            | nil =>
              have HA := Lib.hid (hfa rfl)
              clear hfa hfb
              go_wp2
              go_ret3
              exact rowR_ok HA.out hown.out hbel.out
            | cons b o =>
              have HB := Lib.hid (hfb (by simp))
              clear hfa hfb
              go_wp2
              go_ret3
              exact rowR_bad (c := 3) HB.out (by omega) rfl hbel.out
          · have q0 : ((i : Int) == 0) = false := by simp only [beq_eq_false_iff_ne, ne_eq]; omega
            have hlm : i - 1 < s.size := by omega
            have h35c : bt s (i - 1) = 32 := h35b.resolve_left (by omega)
            have qm : ((s[i - 1].toNat : Int) == 32) = true := (eq_true (c := 32) hlm h35c).2
            have x1 : (1 : Int) ≤ (i : Int) := by omega
            have x2 : ((i : Int) - 1).toNat = i - 1 := by omega
            clear h35b h35c
            cases op with
            | nil =>
              have HA := Lib.hid (hfa rfl)
              clear hfa hfb
              go_wp2
              go_ret3
              exact rowR_ok HA.out hown.out hbel.out
            | cons b o =>
              have HB := Lib.hid (hfb (by simp))
              clear hfa hfb
              go_wp2
              go_ret3
              exact rowR_bad (c := 3) HB.out (by omega) rfl hbel.out
        · have hpl := hA.out.pl
          have hol := hA.out.ol
          have HE := Lib.hid hA.out.eq
          have HO := Lib.hid hA.out.own
          have hbel := hA.out.bel
          have hC : ∀ w, Calls Tryz.prog 17 #[.string s, .int .i64 i, .string ⟨op.toArray⟩, .int .i64 last] w fun e w' => e = .returned (OnV (rdO s i op last)) ∧ Below w.heap.size w w' := fun w => refRead_any s i op last w hs (by omega) hlt
          have her := rdO_err (op := op) (last := last) hlt
          have htk := fun hc => rdO_tok (op := op) (last := last) hlt hc
          obtain ⟨x, hx⟩ : ∃ x, rdO s i op last = x := ⟨_, rfl⟩
          rw [hx] at hC her htk
          have HX := Lib.hid hx
          obtain ⟨k, a, t, n, o, c, p⟩ := x
          simp only [OnV] at hC
          clear hfin hA hx
          have hc35 : bt s i ≠ 35 ∨ (bt s i = 35 ∧ 0 < i ∧ bt s (i - 1) ≠ 32) := by
            by_cases e : bt s i = 35
            · exact .inr ⟨e, Nat.pos_of_ne_zero (fun h0 => h35 ⟨e, .inl h0⟩), fun h1 => h35 ⟨e, .inr h1⟩⟩
            · exact .inl e
          have H32 := Lib.hid h32
          have H35 := Lib.hid h35
          clear h32 h35
          rcases hc35 with h35 | ⟨h35, hpos, hm⟩
          · have q35 : ((s[i].toNat : Int) == 35) = false := (ne_true (c := 35) hlt h35).2
            clear h35
            go_wp2_with fail
            refine (hC _).mono ?_
            rintro e w1 ⟨rfl, hb⟩
            have hbel1 := hbel.trans (hb.mono hbel.size)
            have hown1 := own_below HO.out hb
            have hzw := hbel1.size
            clear hb hC hbel HO
            by_cases hc : c = 0
            · subst hc
              have hT := htk rfl
              have hn1 := hT.gt
              have hn2 := hT.le
              have hk2 := hT.kd.2
              have hol2 := hT.olen
              have hat : a = i := hT.at_
              simp only at hn1 hn2 hk2 hol2
              have ha2 : a ≤ 4000 := by omega
              have HAT := Lib.hid hat
              clear hT htk her hat
              have hkc : (8 ≤ k ∧ k ≠ 11) ∨ k = 11 ∨ k = 5 ∨ k = 7 ∨ (k < 8 ∧ k ≠ 5 ∧ k ≠ 7) := by omega
              rcases hkc with hkc | hkc | hkc | hkc | hkc
              · have q8 : decide ((8 : Int) ≤ (k : Int)) = true := decide_eq_true (by omega)
                have q11 : ((k : Int) != 11) = true := by simp only [bne_iff_ne, ne_eq]; omega
                have hask : asks k := by unfold asks; omega
                clear hkc
                have hTi := fun w => refTight_any s n o w (by omega) hn2
                cases ht : tiB s n o with
                | true =>
                  have HT := Lib.hid ht
                  rw [ht] at hTi
                  clear ht
                  go_wp2_with fail
                  refine (hTi _).mono ?_
                  rintro e w' ⟨rfl, rfl⟩
                  clear hTi
                  go_wp2_with (at_builtin; refine wpList_append_own _ rfl _ _ 30 rfl w.heap.size 41 i0 (.agg #[.int .i64 0, .int .i64 0, .string ⟨#[]⟩]) 3 32 Tryz.underlying30 hi hz0 hz1 hz2 rfl (by decide) _ _ _ rfl ((hown1.alloc _).alloc _) ⟨w1.heap.size + 1, 0, none⟩ 1 1 [.int .i64 (k : Nat), .int .i64 ((a : Nat) + base), .string ⟨t.toArray⟩] rfl rfl (fun j u hj => cells_new1 w1 _ _ _ j u hj) (fun u hu => by simp at hu; rcases hu with rfl | rfl | rfl <;> rfl) (by unfold maxLen at *; omega) (by omega) (by simp; omega) ?_)
                  intro v' w3 hown3 hgrow _
                  have hb4 : Below w.heap.size w w3 := below_of_grown ((hbel1.alloc hzw _).alloc (by simp; omega) _) hgrow (by simp; omega) ((hown1.alloc _).alloc _)
                  have HN := Lib.hid (show RowAt s base w v' f n o k (out ++ [(k, a, t)]) w3 from ⟨hn2, by omega, by simp; omega, by omega, hk2, by rw [← HE.out]; exact (rwF_step hlt H32.out H35.out HX.out rfl (.inr HT.out)).symm, by simpa [tkR] using hown3, hb4⟩)
                  clear hgrow hown3 hb4 hown1 hbel1
                  go_wp2
                  go_roundw
                  case rel => exact ⟨v', f, n, o, k, out ++ [(k, a, t)], rfl, rfl, rfl, rfl, HN⟩
                  case measure => simp [intOf]; omega
                | false =>
                  have HT := Lib.hid ht
                  rw [ht] at hTi
                  clear ht
                  go_wp2_with fail
                  refine (hTi _).mono ?_
                  rintro e w' ⟨rfl, rfl⟩
                  clear hTi
                  go_wp2
                  go_ret3
                  exact rowR_bad (c := 3) (HE.out.symm.trans (rwF_loose hlt H32.out H35.out HX.out rfl hask HT.out)) (by omega) rfl (hbel1.alloc hzw _)
              · have q8 : decide ((8 : Int) ≤ (k : Int)) = true := decide_eq_true (by omega)
                have q11 : ((k : Int) != 11) = false := by simp only [bne_eq_false_iff_eq]; omega
                have q5 : ((k : Int) == 5) = false := by simp only [beq_eq_false_iff_ne, ne_eq]; omega
                have q7 : ((k : Int) == 7) = false := by simp only [beq_eq_false_iff_ne, ne_eq]; omega
                have hask : ¬ asks k := by unfold asks; omega
                have HK := Lib.hid hask
                clear hkc hask
                go_wp2_with (at_builtin; refine wpList_append_own _ rfl _ _ 30 rfl w.heap.size 41 i0 (.agg #[.int .i64 0, .int .i64 0, .string ⟨#[]⟩]) 3 32 Tryz.underlying30 hi hz0 hz1 hz2 rfl (by decide) _ _ _ rfl ((hown1.alloc _).alloc _) ⟨w1.heap.size + 1, 0, none⟩ 1 1 [.int .i64 (k : Nat), .int .i64 ((a : Nat) + base), .string ⟨t.toArray⟩] rfl rfl (fun j u hj => cells_new1 w1 _ _ _ j u hj) (fun u hu => by simp at hu; rcases hu with rfl | rfl | rfl <;> rfl) (by unfold maxLen at *; omega) (by omega) (by simp; omega) ?_)
                intro v' w3 hown3 hgrow _
                have hb4 : Below w.heap.size w w3 := below_of_grown ((hbel1.alloc hzw _).alloc (by simp; omega) _) hgrow (by simp; omega) ((hown1.alloc _).alloc _)
                have HN := Lib.hid (show RowAt s base w v' f n o k (out ++ [(k, a, t)]) w3 from ⟨hn2, by omega, by simp; omega, by omega, hk2, by rw [← HE.out]; exact (rwF_step hlt H32.out H35.out HX.out rfl (.inl HK.out)).symm, by simpa [tkR] using hown3, hb4⟩)
                clear hgrow hown3 hb4 hown1 hbel1
                go_wp2
                go_roundw
                case rel => exact ⟨v', f, n, o, k, out ++ [(k, a, t)], rfl, rfl, rfl, rfl, HN⟩
                case measure => simp [intOf]; omega
              · have q8 : decide ((8 : Int) ≤ (k : Int)) = false := decide_eq_false (by omega)
                have q5 : ((k : Int) == 5) = true := by simp only [beq_iff_eq]; omega
                have hask : asks k := by unfold asks; omega
                clear hkc
                have hTi := fun w => refTight_any s n o w (by omega) hn2
                cases ht : tiB s n o with
                | true =>
                  have HT := Lib.hid ht
                  rw [ht] at hTi
                  clear ht
                  go_wp2_with fail
                  refine (hTi _).mono ?_
                  rintro e w' ⟨rfl, rfl⟩
                  clear hTi
                  go_wp2_with (at_builtin; refine wpList_append_own _ rfl _ _ 30 rfl w.heap.size 41 i0 (.agg #[.int .i64 0, .int .i64 0, .string ⟨#[]⟩]) 3 32 Tryz.underlying30 hi hz0 hz1 hz2 rfl (by decide) _ _ _ rfl ((hown1.alloc _).alloc _) ⟨w1.heap.size + 1, 0, none⟩ 1 1 [.int .i64 (k : Nat), .int .i64 ((a : Nat) + base), .string ⟨t.toArray⟩] rfl rfl (fun j u hj => cells_new1 w1 _ _ _ j u hj) (fun u hu => by simp at hu; rcases hu with rfl | rfl | rfl <;> rfl) (by unfold maxLen at *; omega) (by omega) (by simp; omega) ?_)
                  intro v' w3 hown3 hgrow _
                  have hb4 : Below w.heap.size w w3 := below_of_grown ((hbel1.alloc hzw _).alloc (by simp; omega) _) hgrow (by simp; omega) ((hown1.alloc _).alloc _)
                  have HN := Lib.hid (show RowAt s base w v' f n o k (out ++ [(k, a, t)]) w3 from ⟨hn2, by omega, by simp; omega, by omega, hk2, by rw [← HE.out]; exact (rwF_step hlt H32.out H35.out HX.out rfl (.inr HT.out)).symm, by simpa [tkR] using hown3, hb4⟩)
                  clear hgrow hown3 hb4 hown1 hbel1
                  go_wp2
                  go_roundw
                  case rel => exact ⟨v', f, n, o, k, out ++ [(k, a, t)], rfl, rfl, rfl, rfl, HN⟩
                  case measure => simp [intOf]; omega
                | false =>
                  have HT := Lib.hid ht
                  rw [ht] at hTi
                  clear ht
                  go_wp2_with fail
                  refine (hTi _).mono ?_
                  rintro e w' ⟨rfl, rfl⟩
                  clear hTi
                  go_wp2
                  go_ret3
                  exact rowR_bad (c := 3) (HE.out.symm.trans (rwF_loose hlt H32.out H35.out HX.out rfl hask HT.out)) (by omega) rfl (hbel1.alloc hzw _)
              · have q8 : decide ((8 : Int) ≤ (k : Int)) = false := decide_eq_false (by omega)
                have q5 : ((k : Int) == 5) = false := by simp only [beq_eq_false_iff_ne, ne_eq]; omega
                have q7 : ((k : Int) == 7) = true := by simp only [beq_iff_eq]; omega
                have hask : asks k := by unfold asks; omega
                clear hkc
                have hTi := fun w => refTight_any s n o w (by omega) hn2
                cases ht : tiB s n o with
                | true =>
                  have HT := Lib.hid ht
                  rw [ht] at hTi
                  clear ht
                  go_wp2_with fail
                  refine (hTi _).mono ?_
                  rintro e w' ⟨rfl, rfl⟩
                  clear hTi
                  go_wp2_with (at_builtin; refine wpList_append_own _ rfl _ _ 30 rfl w.heap.size 41 i0 (.agg #[.int .i64 0, .int .i64 0, .string ⟨#[]⟩]) 3 32 Tryz.underlying30 hi hz0 hz1 hz2 rfl (by decide) _ _ _ rfl ((hown1.alloc _).alloc _) ⟨w1.heap.size + 1, 0, none⟩ 1 1 [.int .i64 (k : Nat), .int .i64 ((a : Nat) + base), .string ⟨t.toArray⟩] rfl rfl (fun j u hj => cells_new1 w1 _ _ _ j u hj) (fun u hu => by simp at hu; rcases hu with rfl | rfl | rfl <;> rfl) (by unfold maxLen at *; omega) (by omega) (by simp; omega) ?_)
                  intro v' w3 hown3 hgrow _
                  have hb4 : Below w.heap.size w w3 := below_of_grown ((hbel1.alloc hzw _).alloc (by simp; omega) _) hgrow (by simp; omega) ((hown1.alloc _).alloc _)
                  have HN := Lib.hid (show RowAt s base w v' f n o k (out ++ [(k, a, t)]) w3 from ⟨hn2, by omega, by simp; omega, by omega, hk2, by rw [← HE.out]; exact (rwF_step hlt H32.out H35.out HX.out rfl (.inr HT.out)).symm, by simpa [tkR] using hown3, hb4⟩)
                  clear hgrow hown3 hb4 hown1 hbel1
                  go_wp2
                  go_roundw
                  case rel => exact ⟨v', f, n, o, k, out ++ [(k, a, t)], rfl, rfl, rfl, rfl, HN⟩
                  case measure => simp [intOf]; omega
                | false =>
                  have HT := Lib.hid ht
                  rw [ht] at hTi
                  clear ht
                  go_wp2_with fail
                  refine (hTi _).mono ?_
                  rintro e w' ⟨rfl, rfl⟩
                  clear hTi
                  go_wp2
                  go_ret3
                  exact rowR_bad (c := 3) (HE.out.symm.trans (rwF_loose hlt H32.out H35.out HX.out rfl hask HT.out)) (by omega) rfl (hbel1.alloc hzw _)
              · have q8 : decide ((8 : Int) ≤ (k : Int)) = false := decide_eq_false (by omega)
                have q5 : ((k : Int) == 5) = false := by simp only [beq_eq_false_iff_ne, ne_eq]; omega
                have q7 : ((k : Int) == 7) = false := by simp only [beq_eq_false_iff_ne, ne_eq]; omega
                have hask : ¬ asks k := by unfold asks; omega
                have HK := Lib.hid hask
                clear hkc hask
                go_wp2_with (at_builtin; refine wpList_append_own _ rfl _ _ 30 rfl w.heap.size 41 i0 (.agg #[.int .i64 0, .int .i64 0, .string ⟨#[]⟩]) 3 32 Tryz.underlying30 hi hz0 hz1 hz2 rfl (by decide) _ _ _ rfl ((hown1.alloc _).alloc _) ⟨w1.heap.size + 1, 0, none⟩ 1 1 [.int .i64 (k : Nat), .int .i64 ((a : Nat) + base), .string ⟨t.toArray⟩] rfl rfl (fun j u hj => cells_new1 w1 _ _ _ j u hj) (fun u hu => by simp at hu; rcases hu with rfl | rfl | rfl <;> rfl) (by unfold maxLen at *; omega) (by omega) (by simp; omega) ?_)
                intro v' w3 hown3 hgrow _
                have hb4 : Below w.heap.size w w3 := below_of_grown ((hbel1.alloc hzw _).alloc (by simp; omega) _) hgrow (by simp; omega) ((hown1.alloc _).alloc _)
                have HN := Lib.hid (show RowAt s base w v' f n o k (out ++ [(k, a, t)]) w3 from ⟨hn2, by omega, by simp; omega, by omega, hk2, by rw [← HE.out]; exact (rwF_step hlt H32.out H35.out HX.out rfl (.inl HK.out)).symm, by simpa [tkR] using hown3, hb4⟩)
                clear hgrow hown3 hb4 hown1 hbel1
                go_wp2
                go_roundw
                case rel => exact ⟨v', f, n, o, k, out ++ [(k, a, t)], rfl, rfl, rfl, rfl, HN⟩
                case measure => simp [intOf]; omega
            · have hp2 : p ≤ 4000 := Nat.le_trans (show p ≤ s.size from her.1) (by omega)
              have qc : ((c : Int) != 0) = true := by simp only [bne_iff_ne, ne_eq]; omega
              have x5 : IntKind.i64.wrap (base + (p : Int)) = base + (p : Int) := by rw [IntKind.wrap_i64]; omega
              clear htk her
              go_wp2
              go_quiet (fail)
              clear x5
              go_wp2
              go_ret3
              exact rowR_bad (HE.out.symm.trans (rwF_bad hlt H32.out H35.out HX.out hc)) hc rfl (bel_drewN (hbel1.alloc hzw _) nq)
          · have q35 : ((s[i].toNat : Int) == 35) = true := (eq_true (c := 35) hlt h35).2
            have q0 : ((i : Int) == 0) = false := by simp only [beq_eq_false_iff_ne, ne_eq]; omega
            have hlm : i - 1 < s.size := by omega
            have qm : ((s[i - 1].toNat : Int) == 32) = false := (ne_true (c := 32) hlm hm).2
            have x1 : (1 : Int) ≤ (i : Int) := by omega
            have x2 : ((i : Int) - 1).toNat = i - 1 := by omega
            clear h35 hm
            go_wp2_with fail
            refine (hC _).mono ?_
            rintro e w1 ⟨rfl, hb⟩
            have hbel1 := hbel.trans (hb.mono hbel.size)
            have hown1 := own_below HO.out hb
            have hzw := hbel1.size
            clear hb hC hbel HO
            skip
            by_cases hc : c = 0
            · subst hc
              have hT := htk rfl
              have hn1 := hT.gt
              have hn2 := hT.le
              have hk2 := hT.kd.2
              have hol2 := hT.olen
              have hat : a = i := hT.at_
              simp only at hn1 hn2 hk2 hol2
              have ha2 : a ≤ 4000 := by omega
              have HAT := Lib.hid hat
              clear hT htk her hat
              have hkc : (8 ≤ k ∧ k ≠ 11) ∨ k = 11 ∨ k = 5 ∨ k = 7 ∨ (k < 8 ∧ k ≠ 5 ∧ k ≠ 7) := by omega
              rcases hkc with hkc | hkc | hkc | hkc | hkc
              · have q8 : decide ((8 : Int) ≤ (k : Int)) = true := decide_eq_true (by omega)
                have q11 : ((k : Int) != 11) = true := by simp only [bne_iff_ne, ne_eq]; omega
                have hask : asks k := by unfold asks; omega
                clear hkc
                have hTi := fun w => refTight_any s n o w (by omega) hn2
                cases ht : tiB s n o with
                | true =>
                  have HT := Lib.hid ht
                  rw [ht] at hTi
                  clear ht
                  go_wp2_with fail
                  refine (hTi _).mono ?_
                  rintro e w' ⟨rfl, rfl⟩
                  clear hTi
                  go_wp2_with (at_builtin; refine wpList_append_own _ rfl _ _ 30 rfl w.heap.size 41 i0 (.agg #[.int .i64 0, .int .i64 0, .string ⟨#[]⟩]) 3 32 Tryz.underlying30 hi hz0 hz1 hz2 rfl (by decide) _ _ _ rfl ((hown1.alloc _).alloc _) ⟨w1.heap.size + 1, 0, none⟩ 1 1 [.int .i64 (k : Nat), .int .i64 ((a : Nat) + base), .string ⟨t.toArray⟩] rfl rfl (fun j u hj => cells_new1 w1 _ _ _ j u hj) (fun u hu => by simp at hu; rcases hu with rfl | rfl | rfl <;> rfl) (by unfold maxLen at *; omega) (by omega) (by simp; omega) ?_)
                  intro v' w3 hown3 hgrow _
                  have hb4 : Below w.heap.size w w3 := below_of_grown ((hbel1.alloc hzw _).alloc (by simp; omega) _) hgrow (by simp; omega) ((hown1.alloc _).alloc _)
                  have HN := Lib.hid (show RowAt s base w v' f n o k (out ++ [(k, a, t)]) w3 from ⟨hn2, by omega, by simp; omega, by omega, hk2, by rw [← HE.out]; exact (rwF_step hlt H32.out H35.out HX.out rfl (.inr HT.out)).symm, by simpa [tkR] using hown3, hb4⟩)
                  clear hgrow hown3 hb4 hown1 hbel1
                  go_wp2
                  go_roundw
                  case rel => exact ⟨v', f, n, o, k, out ++ [(k, a, t)], rfl, rfl, rfl, rfl, HN⟩
                  case measure => simp [intOf]; omega
                | false =>
                  have HT := Lib.hid ht
                  rw [ht] at hTi
                  clear ht
                  go_wp2_with fail
                  refine (hTi _).mono ?_
                  rintro e w' ⟨rfl, rfl⟩
                  clear hTi
                  go_wp2
                  go_ret3
                  exact rowR_bad (c := 3) (HE.out.symm.trans (rwF_loose hlt H32.out H35.out HX.out rfl hask HT.out)) (by omega) rfl (hbel1.alloc hzw _)
              · have q8 : decide ((8 : Int) ≤ (k : Int)) = true := decide_eq_true (by omega)
                have q11 : ((k : Int) != 11) = false := by simp only [bne_eq_false_iff_eq]; omega
                have q5 : ((k : Int) == 5) = false := by simp only [beq_eq_false_iff_ne, ne_eq]; omega
                have q7 : ((k : Int) == 7) = false := by simp only [beq_eq_false_iff_ne, ne_eq]; omega
                have hask : ¬ asks k := by unfold asks; omega
                have HK := Lib.hid hask
                clear hkc hask
                go_wp2_with (at_builtin; refine wpList_append_own _ rfl _ _ 30 rfl w.heap.size 41 i0 (.agg #[.int .i64 0, .int .i64 0, .string ⟨#[]⟩]) 3 32 Tryz.underlying30 hi hz0 hz1 hz2 rfl (by decide) _ _ _ rfl ((hown1.alloc _).alloc _) ⟨w1.heap.size + 1, 0, none⟩ 1 1 [.int .i64 (k : Nat), .int .i64 ((a : Nat) + base), .string ⟨t.toArray⟩] rfl rfl (fun j u hj => cells_new1 w1 _ _ _ j u hj) (fun u hu => by simp at hu; rcases hu with rfl | rfl | rfl <;> rfl) (by unfold maxLen at *; omega) (by omega) (by simp; omega) ?_)
                intro v' w3 hown3 hgrow _
                have hb4 : Below w.heap.size w w3 := below_of_grown ((hbel1.alloc hzw _).alloc (by simp; omega) _) hgrow (by simp; omega) ((hown1.alloc _).alloc _)
                have HN := Lib.hid (show RowAt s base w v' f n o k (out ++ [(k, a, t)]) w3 from ⟨hn2, by omega, by simp; omega, by omega, hk2, by rw [← HE.out]; exact (rwF_step hlt H32.out H35.out HX.out rfl (.inl HK.out)).symm, by simpa [tkR] using hown3, hb4⟩)
                clear hgrow hown3 hb4 hown1 hbel1
                go_wp2
                go_roundw
                case rel => exact ⟨v', f, n, o, k, out ++ [(k, a, t)], rfl, rfl, rfl, rfl, HN⟩
                case measure => simp [intOf]; omega
              · have q8 : decide ((8 : Int) ≤ (k : Int)) = false := decide_eq_false (by omega)
                have q5 : ((k : Int) == 5) = true := by simp only [beq_iff_eq]; omega
                have hask : asks k := by unfold asks; omega
                clear hkc
                have hTi := fun w => refTight_any s n o w (by omega) hn2
                cases ht : tiB s n o with
                | true =>
                  have HT := Lib.hid ht
                  rw [ht] at hTi
                  clear ht
                  go_wp2_with fail
                  refine (hTi _).mono ?_
                  rintro e w' ⟨rfl, rfl⟩
                  clear hTi
                  go_wp2_with (at_builtin; refine wpList_append_own _ rfl _ _ 30 rfl w.heap.size 41 i0 (.agg #[.int .i64 0, .int .i64 0, .string ⟨#[]⟩]) 3 32 Tryz.underlying30 hi hz0 hz1 hz2 rfl (by decide) _ _ _ rfl ((hown1.alloc _).alloc _) ⟨w1.heap.size + 1, 0, none⟩ 1 1 [.int .i64 (k : Nat), .int .i64 ((a : Nat) + base), .string ⟨t.toArray⟩] rfl rfl (fun j u hj => cells_new1 w1 _ _ _ j u hj) (fun u hu => by simp at hu; rcases hu with rfl | rfl | rfl <;> rfl) (by unfold maxLen at *; omega) (by omega) (by simp; omega) ?_)
                  intro v' w3 hown3 hgrow _
                  have hb4 : Below w.heap.size w w3 := below_of_grown ((hbel1.alloc hzw _).alloc (by simp; omega) _) hgrow (by simp; omega) ((hown1.alloc _).alloc _)
                  have HN := Lib.hid (show RowAt s base w v' f n o k (out ++ [(k, a, t)]) w3 from ⟨hn2, by omega, by simp; omega, by omega, hk2, by rw [← HE.out]; exact (rwF_step hlt H32.out H35.out HX.out rfl (.inr HT.out)).symm, by simpa [tkR] using hown3, hb4⟩)
                  clear hgrow hown3 hb4 hown1 hbel1
                  go_wp2
                  go_roundw
                  case rel => exact ⟨v', f, n, o, k, out ++ [(k, a, t)], rfl, rfl, rfl, rfl, HN⟩
                  case measure => simp [intOf]; omega
                | false =>
                  have HT := Lib.hid ht
                  rw [ht] at hTi
                  clear ht
                  go_wp2_with fail
                  refine (hTi _).mono ?_
                  rintro e w' ⟨rfl, rfl⟩
                  clear hTi
                  go_wp2
                  go_ret3
                  exact rowR_bad (c := 3) (HE.out.symm.trans (rwF_loose hlt H32.out H35.out HX.out rfl hask HT.out)) (by omega) rfl (hbel1.alloc hzw _)
              · have q8 : decide ((8 : Int) ≤ (k : Int)) = false := decide_eq_false (by omega)
                have q5 : ((k : Int) == 5) = false := by simp only [beq_eq_false_iff_ne, ne_eq]; omega
                have q7 : ((k : Int) == 7) = true := by simp only [beq_iff_eq]; omega
                have hask : asks k := by unfold asks; omega
                clear hkc
                have hTi := fun w => refTight_any s n o w (by omega) hn2
                cases ht : tiB s n o with
                | true =>
                  have HT := Lib.hid ht
                  rw [ht] at hTi
                  clear ht
                  go_wp2_with fail
                  refine (hTi _).mono ?_
                  rintro e w' ⟨rfl, rfl⟩
                  clear hTi
                  go_wp2_with (at_builtin; refine wpList_append_own _ rfl _ _ 30 rfl w.heap.size 41 i0 (.agg #[.int .i64 0, .int .i64 0, .string ⟨#[]⟩]) 3 32 Tryz.underlying30 hi hz0 hz1 hz2 rfl (by decide) _ _ _ rfl ((hown1.alloc _).alloc _) ⟨w1.heap.size + 1, 0, none⟩ 1 1 [.int .i64 (k : Nat), .int .i64 ((a : Nat) + base), .string ⟨t.toArray⟩] rfl rfl (fun j u hj => cells_new1 w1 _ _ _ j u hj) (fun u hu => by simp at hu; rcases hu with rfl | rfl | rfl <;> rfl) (by unfold maxLen at *; omega) (by omega) (by simp; omega) ?_)
                  intro v' w3 hown3 hgrow _
                  have hb4 : Below w.heap.size w w3 := below_of_grown ((hbel1.alloc hzw _).alloc (by simp; omega) _) hgrow (by simp; omega) ((hown1.alloc _).alloc _)
                  have HN := Lib.hid (show RowAt s base w v' f n o k (out ++ [(k, a, t)]) w3 from ⟨hn2, by omega, by simp; omega, by omega, hk2, by rw [← HE.out]; exact (rwF_step hlt H32.out H35.out HX.out rfl (.inr HT.out)).symm, by simpa [tkR] using hown3, hb4⟩)
                  clear hgrow hown3 hb4 hown1 hbel1
                  go_wp2
                  go_roundw
                  case rel => exact ⟨v', f, n, o, k, out ++ [(k, a, t)], rfl, rfl, rfl, rfl, HN⟩
                  case measure => simp [intOf]; omega
                | false =>
                  have HT := Lib.hid ht
                  rw [ht] at hTi
                  clear ht
                  go_wp2_with fail
                  refine (hTi _).mono ?_
                  rintro e w' ⟨rfl, rfl⟩
                  clear hTi
                  go_wp2
                  go_ret3
                  exact rowR_bad (c := 3) (HE.out.symm.trans (rwF_loose hlt H32.out H35.out HX.out rfl hask HT.out)) (by omega) rfl (hbel1.alloc hzw _)
              · have q8 : decide ((8 : Int) ≤ (k : Int)) = false := decide_eq_false (by omega)
                have q5 : ((k : Int) == 5) = false := by simp only [beq_eq_false_iff_ne, ne_eq]; omega
                have q7 : ((k : Int) == 7) = false := by simp only [beq_eq_false_iff_ne, ne_eq]; omega
                have hask : ¬ asks k := by unfold asks; omega
                have HK := Lib.hid hask
                clear hkc hask
                go_wp2_with (at_builtin; refine wpList_append_own _ rfl _ _ 30 rfl w.heap.size 41 i0 (.agg #[.int .i64 0, .int .i64 0, .string ⟨#[]⟩]) 3 32 Tryz.underlying30 hi hz0 hz1 hz2 rfl (by decide) _ _ _ rfl ((hown1.alloc _).alloc _) ⟨w1.heap.size + 1, 0, none⟩ 1 1 [.int .i64 (k : Nat), .int .i64 ((a : Nat) + base), .string ⟨t.toArray⟩] rfl rfl (fun j u hj => cells_new1 w1 _ _ _ j u hj) (fun u hu => by simp at hu; rcases hu with rfl | rfl | rfl <;> rfl) (by unfold maxLen at *; omega) (by omega) (by simp; omega) ?_)
                intro v' w3 hown3 hgrow _
                have hb4 : Below w.heap.size w w3 := below_of_grown ((hbel1.alloc hzw _).alloc (by simp; omega) _) hgrow (by simp; omega) ((hown1.alloc _).alloc _)
                have HN := Lib.hid (show RowAt s base w v' f n o k (out ++ [(k, a, t)]) w3 from ⟨hn2, by omega, by simp; omega, by omega, hk2, by rw [← HE.out]; exact (rwF_step hlt H32.out H35.out HX.out rfl (.inl HK.out)).symm, by simpa [tkR] using hown3, hb4⟩)
                clear hgrow hown3 hb4 hown1 hbel1
                go_wp2
                go_roundw
                case rel => exact ⟨v', f, n, o, k, out ++ [(k, a, t)], rfl, rfl, rfl, rfl, HN⟩
                case measure => simp [intOf]; omega
            · have hp2 : p ≤ 4000 := Nat.le_trans (show p ≤ s.size from her.1) (by omega)
              have qc : ((c : Int) != 0) = true := by simp only [bne_iff_ne, ne_eq]; omega
              have x5 : IntKind.i64.wrap (base + (p : Int)) = base + (p : Int) := by rw [IntKind.wrap_i64]; omega
              clear htk her
              go_wp2
              go_quiet (fail)
              clear x5
              go_wp2
              go_ret3
              exact rowR_bad (HE.out.symm.trans (rwF_bad hlt H32.out H35.out HX.out hc)) hc rfl (bel_drewN (hbel1.alloc hzw _) nq)
    · obtain ⟨hfa, hfb⟩ := hfin (fun e => hlt e.1)
      have hown := Lib.hid hA.out.own
      have hbel := Lib.hid hA.out.bel
      clear hfin hA
      cases op with
      | nil =>
        have HA := Lib.hid (hfa rfl)
        clear hfa hfb
        go_wp2
        go_ret3
        exact rowR_ok HA.out hown.out hbel.out
      | cons b o =>
        have HB := Lib.hid (hfb (by simp))
        clear hfa hfb
        go_wp2
        go_ret3
        exact rowR_bad (c := 3) HB.out (by omega) rfl hbel.out
end Go.Proofs.YtnnnanemefcmdaaGreatDoor
