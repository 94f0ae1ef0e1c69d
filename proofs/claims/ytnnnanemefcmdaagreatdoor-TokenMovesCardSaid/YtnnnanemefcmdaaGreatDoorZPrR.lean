/- The walk of the program's read (layer 7). -/
import Derived.Test.YtnnnanemefcmdaaGreatDoorZL2a
import Derived.Test.YtnnnanemefcmdaaGreatDoorZTokU
import Derived.OwnWalk
import Derived.WalkMore
import Derived.Outline
import Derived.Deep.CutBlock
import Derived.Deep.CutRange
import Derived.RegionTactic
namespace Go.Proofs.YtnnnanemefcmdaaGreatDoor
open Go.RowKit

theorem infoPT : (Tryz.prog.info? 38).map (fun i => (i.zero, i.size, i.bytes)) = some (some (.agg #[.int .i64 0, .int .i64 0, .string ⟨#[]⟩]), 3, 32) := by kernel_rfl
/-- What the program's read comes to. -/
def PrRes (r : List Tk × Nat × Nat) (w : World) (e : Ending) (w' : World) : Prop :=
  ∃ v, e = .returned (.tuple #[v, .agg #[.int .i64 (r.2.1 : Nat), .int .i64 (r.2.2 : Nat)]]) ∧ w'.ownsRow w.heap.size 38 3 v r.1.length (r.1.flatMap tk0) ∧ Below w.heap.size w w'
theorem prRes_bad {r : List Tk × Nat × Nat} {w w' : World} {c p : Nat} (h : r = ([], c, p)) (hb : Below w.heap.size w w') : PrRes r w (.returned (.tuple #[.slice none 0 0, .agg #[.int .i64 (c : Nat), .int .i64 (p : Nat)]])) w' := by
  subst h
  exact ⟨_, rfl, World.ownsRow_nil _ _ _ _, hb⟩
theorem prRes_ok {r : List Tk × Nat × Nat} {w w' : World} {v : Value} {out : List Tk} (h : r = (out, 0, 0)) (ho : w'.ownsRow w.heap.size 38 3 v out.length (out.flatMap tk0)) (hb : Below w.heap.size w w') : PrRes r w (.returned (.tuple #[v, .agg #[.int .i64 0, .int .i64 0]])) w' := by
  subst h
  exact ⟨_, rfl, ho, hb⟩
/-- What is known at a round's head. -/
structure PrAt (s : ByteArray) (W0 : World) (R B g : Nat) (f i : Nat) (op : List UInt8) (tv : Value) (toks : List Tk) (wr : World) : Prop where
  le : i ≤ s.size
  fu : s.size < i + f
  ol : toks.length ≤ i
  pl : op.length ≤ i
  eq : rwF s f i op (lastK toks) toks = rwT s
  inv : op ≠ [] → 1 < lastK toks
  kk : ∀ x ∈ toks, 1 ≤ x.1
  st : St W0 R B g s tv toks op wr
theorem lastK_snoc (r : List Tk) (x : Tk) : lastK (r ++ [x]) = x.1 := by unfold lastK; simp
theorem lastK_zero {toks : List Tk} (h : ∀ x ∈ toks, 1 ≤ x.1) : lastK toks = 0 → toks = [] := by
  intro e
  rcases List.eq_nil_or_concat toks with rfl | ⟨r, x, rfl⟩
  · rfl
  · rw [List.concat_eq_append] at e h
    rw [lastK_snoc] at e
    have := h x (by simp)
    omega
structure Mid5 (i : Nat) (v : Value) (P : Prop) : Prop where
  a : v = .int .i64 (i : Nat)
  m : P
theorem cells_newS (w : World) (a : Addr) (v : Value) (cs : List Value) (t : TypeId) (j : Nat) (u : Value) (h : cs[j]? = some u) :
    ((w.setCell a v).alloc (.cells cs.toArray t)).cell? ((⟨w.heap.size, 0, none⟩ : Addr).add j) = some u := by
  have := cells_new (w.setCell a v) cs t j u h
  simpa using this
/-- Row, token and fault of a round. -/
structure M3 (W0 : World) (R B g : Nat) (s : ByteArray) (tv : Value) (toks : List Tk) (op : List UInt8) (T : Nat) (k a : Int) (t : ByteArray) (c p : Int) (w : World) : Prop where
  tk : w.heap[T]? = some (.cells #[.int .i64 k, .int .i64 a, .string t] 38)
  fa : w.heap[T + 1]? = some (.cells #[.int .i64 c, .int .i64 p] 27)
  st : St W0 R B g s tv toks op w
theorem M3.below {W0 : World} {R B g : Nat} {s : ByteArray} {tv : Value} {toks : List Tk} {op : List UInt8} {T : Nat} {k a : Int} {t : ByteArray} {c p : Int} {w w' : World} (h : M3 W0 R B g s tv toks op T k a t c p w) (hb : Below w.heap.size w w') : M3 W0 R B g s tv toks op T k a t c p w' :=
  ⟨(hb.block T (hlt_of h.tk)).trans h.tk, (hb.block (T + 1) (hlt_of h.fa)).trans h.fa, h.st.below hb⟩
theorem M3.setF {W0 : World} {R B g : Nat} {s : ByteArray} {tv : Value} {toks : List Tk} {op : List UInt8} {T : Nat} {k a : Int} {t : ByteArray} {c p c2 p2 : Int} {w : World} (h : M3 W0 R B g s tv toks op T k a t c p w) (hl : Lows W0 R B g tv T) : M3 W0 R B g s tv toks op T k a t c2 p2 ((w.setCell ⟨T + 1, 0, none⟩ (.int .i64 c2)).setCell ⟨T + 1, 1, none⟩ (.int .i64 p2)) := by
  refine ⟨?_, ?_, (h.st.set hl (Nat.le_succ _) 0 _).set hl (Nat.le_succ _) 1 _⟩
  · rw [Below.heap_setCell _ _ _ _ (show T ≠ T + 1 by omega), Below.heap_setCell _ _ _ _ (show T ≠ T + 1 by omega)]; exact h.tk
  · have y0 := heap_setCell_same w (T + 1) 0 _ _ (.int .i64 c2) h.fa
    exact heap_setCell_same _ (T + 1) 1 _ _ (.int .i64 p2) y0
theorem M3.setA {W0 : World} {R B g : Nat} {s : ByteArray} {tv : Value} {toks : List Tk} {op : List UInt8} {T : Nat} {k a a2 : Int} {t : ByteArray} {c p : Int} {w : World} (h : M3 W0 R B g s tv toks op T k a t c p w) (hl : Lows W0 R B g tv T) : M3 W0 R B g s tv toks op T k a2 t c p (w.setCell ⟨T, 1, none⟩ (.int .i64 a2)) := by
  refine ⟨heap_setCell_same w T 1 _ _ (.int .i64 a2) h.tk, ?_, h.st.set hl (Nat.le_refl _) 1 _⟩
  rw [Below.heap_setCell _ _ _ _ (show T + 1 ≠ T by omega)]; exact h.fa
theorem St.resBel {W0 : World} {R B g : Nat} {s : ByteArray} {tv : Value} {toks : List Tk} {op : List UInt8} {w : World} (h : St W0 R B g s tv toks op w) (u v : Value) : Below W0.heap.size W0 ((w.setCell ⟨R, 0, none⟩ u).setCell ⟨R, 1, none⟩ v) := (h.bel.setCell (p := ⟨R, 0, none⟩) h.rb u).setCell (p := ⟨R, 1, none⟩) h.rb v
theorem St.resOwn {W0 : World} {R B g : Nat} {s : ByteArray} {tv : Value} {toks : List Tk} {op : List UInt8} {w : World} (h : St W0 R B g s tv toks op w) (u v : Value) : ((w.setCell ⟨R, 0, none⟩ u).setCell ⟨R, 1, none⟩ v).ownsRow W0.heap.size 38 3 tv toks.length (toks.flatMap tk0) := by
  have hR := own_ne h.tok h.res (by decide)
  exact ownsRow_setCell_other (ownsRow_setCell_other h.tok (a := ⟨R, 0, none⟩) hR u) (a := ⟨R, 1, none⟩) hR v
theorem endB_yes {s : ByteArray} {k n : Nat} {op : List UInt8} (h : endB s k n op = true) : ¬ asks k ∨ tiB s n op = true := by
  unfold endB at h
  rw [Bool.or_eq_true] at h
  rcases h with h | h
  · left; intro ha; unfold asks at ha; rw [decide_eq_true ha] at h; cases h
  · exact .inr h
theorem endB_no {s : ByteArray} {k n : Nat} {op : List UInt8} (h : endB s k n op = false) : asks k ∧ tiB s n op = false := by
  unfold endB at h
  rw [Bool.or_eq_false_iff] at h
  refine ⟨?_, h.2⟩
  by_cases ha : 8 ≤ k ∧ k ≠ 11 ∨ k = 5 ∨ k = 7
  · exact ha
  · have h1 := h.1
    rw [decide_eq_false ha] at h1; cases h1
theorem nm_ok {x : On} (h : x.c = 0) : nm x = ⟨x.k, 0, x.t, x.n, x.o, 0, 0⟩ := by unfold nm; rw [if_pos h]
theorem nm_er {x : On} (h : x.c ≠ 0) : nm x = ⟨0, 0, [], 0, [], x.c, x.p⟩ := by unfold nm; rw [if_neg h]
theorem Mid.m3 {W0 : World} {R B g : Nat} {s : ByteArray} {tv : Value} {toks : List Tk} {op : List UInt8} {T : Nat} {x : On} {v : Value} {w : World} (h : Mid W0 R B g s tv toks op T x v w) : M3 W0 R B g s tv toks (if x.c = 0 then x.o else op) T ((nm x).k : Nat) 0 ⟨(nm x).t.toArray⟩ ((nm x).c : Nat) ((nm x).p : Nat) w := ⟨h.tk, h.fa, h.st⟩
/-- A round's step keeps what is known. -/
theorem PrAt.step {s : ByteArray} {W0 : World} {R B g f i : Nat} {op : List UInt8} {tv tv' : Value} {toks : List Tk} {wr w' : World} (h : PrAt s W0 R B g (f + 1) i op tv toks wr) (hlt : i < s.size) (h32 : bt s i ≠ 32) (h35 : ¬ (bt s i = 35 ∧ (i = 0 ∨ bt s (i - 1) = 32))) {x : On} (hx : rdO s i op (lastK toks) = x) (hc : x.c = 0) (hk : ¬ asks x.k ∨ tiB s x.n x.o = true) (hT : Tok1 s i op (lastK toks) x) (hst : St W0 R B g s tv' (toks ++ [(x.k, i, x.t)]) x.o w') : PrAt s W0 R B g f x.n x.o tv' (toks ++ [(x.k, i, x.t)]) w' := by
  have h1 := hT.gt
  have h2 := hT.olen
  have h3 := h.ol
  have h4 := h.pl
  have h5 := h.fu
  refine ⟨hT.le, by omega, by simp; omega, by omega, ?_, ?_, ?_, hst⟩
  · rw [lastK_snoc, ← h.eq, rwF_step hlt h32 h35 hx hc hk, hT.at_]
  · rw [lastK_snoc]
    intro ho
    have hkd := hT.kd
    rcases hT.fl with ⟨e, _⟩ | ⟨e, _⟩ | ⟨e, _⟩ | ⟨e, _⟩ | ⟨e, _⟩ | ⟨_, _, e⟩ | ⟨e, _⟩
    all_goals first | omega | exact absurd e ho
  · intro y hy
    rcases List.mem_append.1 hy with hy | hy
    · exact h.kk y hy
    · rw [List.mem_singleton.1 hy]; exact hT.kd.1
set_option maxRecDepth 100000 in
set_option maxHeartbeats 40000000 in
theorem prRead_any (s : ByteArray) (w : World) (hs : s.size ≤ 3000) (hE : ErrCell w) :
    Calls Tryz.prog 16 #[.string s] w (PrRes (rwT s) w) := by
  obtain ⟨i0, hi0, hz0, hz1, hz2⟩ := info_parts infoU8
  obtain ⟨j0, hj0, hy0, hy1, hy2⟩ := info_parts infoPT
  have hmx : (1000000 : Nat) ≤ maxLen := by decide
  have HE0 := Lib.hid hE
  clear hE
  go_enter Tryz.func16, Tryz.ntmps16
  go_wp2
  go_step3
  go_wp2_with (at_make; refine wpList_make_own _ rfl _ _ 52 rfl w.heap.size 5 i0 (.int .u8 0) 1 Tryz.underlying52 hi0 hz0 hz1 _ _ _ s.size rfl rfl (by omega) ?b1 ?b2 ?b3 ?_)
  case b1 => rw [hz2]; omega
  case b2 => omega
  case b3 => simp
  intro w1 hown1 hgrow1
  have hst : St w w.heap.size w1.heap.size (w.heap.size + 1) s (.slice none 0 0) [] [] (w1.alloc (.cells #[.string s, .slice none 0 0, .slice (some ⟨w.heap.size + 1, 0, none⟩) 0 s.size] 54)) := by
    have hsz := hgrow1.size
    have hb1 : Below w.heap.size w w1 := ((Below.refl w.heap.size w).alloc (Nat.le_refl _) (.cells #[.int .i64 0, .int .i64 0] 27)).grown hgrow1 (by simp) (fun k hk => by cases hk)
    have hb2 := hb1.alloc hb1.size (.cells #[.string s, .slice none 0 0, .slice (some ⟨w.heap.size + 1, 0, none⟩) 0 s.size] 54)
    have hx : w1.heap[w.heap.size]? = some (.cells #[.int .i64 0, .int .i64 0] 27) := (hgrow1.block _ (by simp) (by simp)).trans (heap_alloc_new w _)
    refine ⟨heap_alloc_new w1 _, World.ownsRow_nil _ _ _ _, ?_, (Lib.alloc_old _ _ _ (hlt_of hx)).trans hx, hb2, Nat.le_refl _, hb1.size⟩
    have := hown1.alloc (.cells #[.string s, .slice none 0 0, .slice (some ⟨w.heap.size + 1, 0, none⟩) 0 s.size] 54)
    simpa using this
  clear hown1 hgrow1
  go_wp2
  go_step3
  go_wp2
  obtain ⟨wS, hwS⟩ : ∃ wS, w1.alloc (.cells #[.string s, .slice none 0 0, .slice (some ⟨w.heap.size + 1, 0, none⟩) 0 s.size] 54) = wS := ⟨_, rfl⟩
  rw [hwS] at hst ⊢
  clear hwS
  have HST := Lib.hid hst
  clear hst
  generalize w1.heap.size = B at *
  obtain ⟨g, hg⟩ : ∃ g, w.heap.size + 1 = g := ⟨_, rfl⟩
  rw [hg] at HST
  clear hg
  go_loopw [5] (fun at_ wr => ∃ (f i : Nat) (op : List UInt8) (tv : Value) (toks : List Tk), at_ = .int .i64 i ∧ Hid (PrAt s w w.heap.size B g f i op tv toks wr)) (fun at_ _ => s.size - (intOf at_).toNat)
  case atStart => exact ⟨s.size + 1, 0, [], .slice none 0 0, [], rfl, Lib.hid ⟨by omega, by omega, by simp, by simp, rfl, (fun h => absurd rfl h), (fun x hx => nomatch hx), HST.out⟩⟩
  case round =>
    obtain ⟨f, i, op, tv, toks, rfl, hA⟩ := hrel
    have hle := hA.out.le
    have hfu := hA.out.fu
    obtain ⟨f, rfl⟩ : ∃ g, f = g + 1 := ⟨f - 1, by omega⟩
    have hfin0 : ∀ (_ : ¬ (i < s.size ∧ ¬ (bt s i = 35 ∧ (i = 0 ∨ bt s (i - 1) = 32)))), (op = [] → rwT s = (toks, 0, 0)) ∧ (op ≠ [] → rwT s = ([], 3, s.size)) := fun hn => by
      have he := hA.out.eq
      rw [rwF_end hn] at he
      exact ⟨fun e => by rw [← he, if_neg (fun h => h e)], fun e => by rw [← he, if_pos e]⟩
    have hRl := hlt_of hA.out.st.res
    have hBl := hlt_of hA.out.st.row
    by_cases hlt : i < s.size
    · by_cases h32 : bt s i = 32
      · as_aux_lemma =>
          have q32 : ((s[i].toNat : Int) == 32) = true := (eq_true (c := 32) hlt h32).2
          have HN := Lib.hid (show PrAt s w w.heap.size B g f (i + 1) op tv toks ((wr.alloc (.cells #[.int .i64 0, .int .i64 0, .string ⟨#[]⟩] 38)).alloc (.cells #[.int .i64 0, .int .i64 0] 27)) from ⟨by omega, by omega, by have := hA.out.ol; omega, by have := hA.out.pl; omega, by rw [← hA.out.eq, rwF_blank hlt h32], hA.out.inv, hA.out.kk, hA.out.st.below (((Below.refl wr.heap.size wr).alloc (Nat.le_refl _) (.cells #[.int .i64 0, .int .i64 0, .string ⟨#[]⟩] 38)).alloc (by simp) (.cells #[.int .i64 0, .int .i64 0] 27))⟩)
          clear hfin0 hA h32
          go_wp2
          go_roundw
          case rel => exact ⟨f, i + 1, op, tv, toks, by go_num, HN⟩
          case measure => simp [intOf]; omega
      · have q32 : ((s[i].toNat : Int) == 32) = false := (ne_true (c := 32) hlt h32).2
        by_cases h35 : bt s i = 35 ∧ (i = 0 ∨ bt s (i - 1) = 32)
        · have hfin := hfin0 (fun e => e.2 h35)
          have q35 : ((s[i].toNat : Int) == 35) = true := (eq_true (c := 35) hlt h35.1).2
          have h35b := h35.2
          clear h35 h32
          rcases Nat.eq_zero_or_pos i with rfl | hpos
          · as_aux_lemma =>
              clear h35b
              cases op with
              | nil =>
                have HQ := Lib.hid (hfin.1 rfl)
                clear hfin
                go_upto_region 43 with fail
                have hst9 := hA.out.st.below (((Below.refl wr.heap.size wr).alloc (Nat.le_refl _) (.cells #[.int .i64 0, .int .i64 0, .string ⟨#[]⟩] 38)).alloc (by simp) (.cells #[.int .i64 0, .int .i64 0] 27))
                obtain ⟨w9, hw9⟩ : ∃ w9, ((wr.alloc (.cells #[.int .i64 0, .int .i64 0, .string ⟨#[]⟩] 38)).alloc (.cells #[.int .i64 0, .int .i64 0] 27)) = w9 := ⟨_, rfl⟩
                rw [hw9] at hst9 ⊢
                clear hw9
                have hF9 := fun w2 (hb : Below w9.heap.size w9 w2) => prFlow_any w2 (hst9.below hb) false rfl
                have HST9 := Lib.hid hst9
                have c1 := cell_hp hst9.row 1 _ rfl
                have r0 := cell_hp hst9.res 0 _ rfl
                have r1 := cell_hp hst9.res 1 _ rfl
                have g0 := free_hp hst9.res 0
                have g1 := free_hp hst9.res 1
                clear hst9 hA hfin0
                go_wp2_with fail
                refine (hF9 _ ?_).mono ?_
                · exact Below.refl _ _
                rintro e w' ⟨rfl, rfl⟩
                clear hF9
                go_wp2
                (try rw [Exit.noGoto_ret])
                refine bodyPost_ret (v := .tuple #[tv, .agg #[.int .i64 0, .int .i64 0]]) (by simp [results, Tryz.results16, go_sem, r0, r1]) rfl ?_
                exact prRes_ok HQ.out (HST9.out.resOwn _ _) (HST9.out.resBel _ _)
              | cons b o =>
                have HQ := Lib.hid (hfin.2 (by simp))
                clear hfin
                go_upto_region 43 with fail
                have hst9 := hA.out.st.below (((Below.refl wr.heap.size wr).alloc (Nat.le_refl _) (.cells #[.int .i64 0, .int .i64 0, .string ⟨#[]⟩] 38)).alloc (by simp) (.cells #[.int .i64 0, .int .i64 0] 27))
                obtain ⟨w9, hw9⟩ : ∃ w9, ((wr.alloc (.cells #[.int .i64 0, .int .i64 0, .string ⟨#[]⟩] 38)).alloc (.cells #[.int .i64 0, .int .i64 0] 27)) = w9 := ⟨_, rfl⟩
                rw [hw9] at hst9 ⊢
                clear hw9
                have hF9 := fun w2 (hb : Below w9.heap.size w9 w2) => prFlow_any w2 (hst9.below hb) true rfl
                have HST9 := Lib.hid hst9
                clear hst9 hA hfin0
                go_wp2_with fail
                refine (hF9 _ ?_).mono ?_
                · exact Below.refl _ _
                rintro e w' ⟨rfl, rfl⟩
                clear hF9
                go_wp2_with fail
                refine (prSyntax_any _ _).mono ?_
                rintro e w8 ⟨rfl, hb⟩
                have hst8 := HST9.out.below hb
                have r0 := cell_hp hst8.res 0 _ rfl
                have r1 := cell_hp hst8.res 1 _ rfl
                have g0 := free_hp hst8.res 0
                have g1 := free_hp hst8.res 1
                have HST8 := Lib.hid hst8
                clear hb hst8 HST9
                go_wp2
                (try rw [Exit.noGoto_ret])
                refine bodyPost_ret (v := .tuple #[.slice none 0 0, .agg #[.int .i64 3, .int .i64 (s.size : Nat)]]) (by simp [results, Tryz.results16, go_sem, r0, r1]) rfl ?_
                exact prRes_bad (c := 3) HQ.out (HST8.out.resBel _ _)
          · as_aux_lemma =>
              have q0 : ((i : Int) == 0) = false := by simp only [beq_eq_false_iff_ne, ne_eq]; omega
              have hlm : i - 1 < s.size := by omega
              have h35c : bt s (i - 1) = 32 := h35b.resolve_left (by omega)
              have qm : ((s[i - 1].toNat : Int) == 32) = true := (eq_true (c := 32) hlm h35c).2
              have x1 : (1 : Int) ≤ (i : Int) := by omega
              have x2 : ((i : Int) - 1).toNat = i - 1 := by omega
              clear h35b h35c
              cases op with
              | nil =>
                have HQ := Lib.hid (hfin.1 rfl)
                clear hfin
                go_upto_region 43 with fail
                have hst9 := hA.out.st.below (((Below.refl wr.heap.size wr).alloc (Nat.le_refl _) (.cells #[.int .i64 0, .int .i64 0, .string ⟨#[]⟩] 38)).alloc (by simp) (.cells #[.int .i64 0, .int .i64 0] 27))
                obtain ⟨w9, hw9⟩ : ∃ w9, ((wr.alloc (.cells #[.int .i64 0, .int .i64 0, .string ⟨#[]⟩] 38)).alloc (.cells #[.int .i64 0, .int .i64 0] 27)) = w9 := ⟨_, rfl⟩
                rw [hw9] at hst9 ⊢
                clear hw9
                have hF9 := fun w2 (hb : Below w9.heap.size w9 w2) => prFlow_any w2 (hst9.below hb) false rfl
                have HST9 := Lib.hid hst9
                have c1 := cell_hp hst9.row 1 _ rfl
                have r0 := cell_hp hst9.res 0 _ rfl
                have r1 := cell_hp hst9.res 1 _ rfl
                have g0 := free_hp hst9.res 0
                have g1 := free_hp hst9.res 1
                clear hst9 hA hfin0
                go_wp2_with fail
                refine (hF9 _ ?_).mono ?_
                · exact Below.refl _ _
                rintro e w' ⟨rfl, rfl⟩
                clear hF9
                go_wp2
                (try rw [Exit.noGoto_ret])
                refine bodyPost_ret (v := .tuple #[tv, .agg #[.int .i64 0, .int .i64 0]]) (by simp [results, Tryz.results16, go_sem, r0, r1]) rfl ?_
                exact prRes_ok HQ.out (HST9.out.resOwn _ _) (HST9.out.resBel _ _)
              | cons b o =>
                have HQ := Lib.hid (hfin.2 (by simp))
                clear hfin
                go_upto_region 43 with fail
                have hst9 := hA.out.st.below (((Below.refl wr.heap.size wr).alloc (Nat.le_refl _) (.cells #[.int .i64 0, .int .i64 0, .string ⟨#[]⟩] 38)).alloc (by simp) (.cells #[.int .i64 0, .int .i64 0] 27))
                obtain ⟨w9, hw9⟩ : ∃ w9, ((wr.alloc (.cells #[.int .i64 0, .int .i64 0, .string ⟨#[]⟩] 38)).alloc (.cells #[.int .i64 0, .int .i64 0] 27)) = w9 := ⟨_, rfl⟩
                rw [hw9] at hst9 ⊢
                clear hw9
                have hF9 := fun w2 (hb : Below w9.heap.size w9 w2) => prFlow_any w2 (hst9.below hb) true rfl
                have HST9 := Lib.hid hst9
                clear hst9 hA hfin0
                go_wp2_with fail
                refine (hF9 _ ?_).mono ?_
                · exact Below.refl _ _
                rintro e w' ⟨rfl, rfl⟩
                clear hF9
                go_wp2_with fail
                refine (prSyntax_any _ _).mono ?_
                rintro e w8 ⟨rfl, hb⟩
                have hst8 := HST9.out.below hb
                have r0 := cell_hp hst8.res 0 _ rfl
                have r1 := cell_hp hst8.res 1 _ rfl
                have g0 := free_hp hst8.res 0
                have g1 := free_hp hst8.res 1
                have HST8 := Lib.hid hst8
                clear hb hst8 HST9
                go_wp2
                (try rw [Exit.noGoto_ret])
                refine bodyPost_ret (v := .tuple #[.slice none 0 0, .agg #[.int .i64 3, .int .i64 (s.size : Nat)]]) (by simp [results, Tryz.results16, go_sem, r0, r1]) rfl ?_
                exact prRes_bad (c := 3) HQ.out (HST8.out.resBel _ _)
        · have hpl := hA.out.pl
          have hTl : Lows w w.heap.size B g tv wr.heap.size := hA.out.st.lows
          obtain ⟨x, hx⟩ : ∃ x, rdO s i op (lastK toks) = x := ⟨_, rfl⟩
          have HX := Lib.hid hx
          have H32 := Lib.hid h32
          have H35 := Lib.hid h35
          clear hx hfin0
          go_upto_block 2 with fail
          have m2 : M3 w w.heap.size B g s tv toks op wr.heap.size 0 0 ⟨#[]⟩ 0 0 ((wr.alloc (.cells #[.int .i64 0, .int .i64 0, .string ⟨#[]⟩] 38)).alloc (.cells #[.int .i64 0, .int .i64 0] 27)) := by
            refine ⟨?_, ?_, hA.out.st.below (((Below.refl wr.heap.size wr).alloc (Nat.le_refl _) (.cells #[.int .i64 0, .int .i64 0, .string ⟨#[]⟩] 38)).alloc (by simp) (.cells #[.int .i64 0, .int .i64 0] 27))⟩
            · rw [Lib.alloc_old _ _ _ (by simp)]; exact heap_alloc_new wr _
            · have := heap_alloc_new (wr.alloc (.cells #[.int .i64 0, .int .i64 0, .string ⟨#[]⟩] 38)) (.cells #[.int .i64 0, .int .i64 0] 27)
              simpa using this
          obtain ⟨w2, hw2⟩ : ∃ w2, ((wr.alloc (.cells #[.int .i64 0, .int .i64 0, .string ⟨#[]⟩] 38)).alloc (.cells #[.int .i64 0, .int .i64 0] 27)) = w2 := ⟨_, rfl⟩
          rw [hw2] at m2 ⊢
          clear hw2 hRl hBl
          have hbb := m2.st.bel
          obtain ⟨T, hT⟩ : ∃ T, wr.heap.size = T := ⟨_, rfl⟩
          rw [hT] at m2 hTl
          simp only [hT]
          clear hT
          go_cut [5, 8] from 14 to 134 (fun s5 s8 wx => Mid5 i s5 (Mid w w.heap.size B g s tv toks op T x s8 wx))
          case first =>
            by_cases hc : bt s i = 35
            · as_aux_lemma =>
                have hpos : 0 < i := Nat.pos_of_ne_zero (fun h0 => h35 ⟨hc, .inl h0⟩)
                have h35c : bt s (i - 1) ≠ 32 := fun h1 => h35 ⟨hc, .inr h1⟩
                have q35 : ((s[i].toNat : Int) == 35) = true := (eq_true (c := 35) hlt hc).2
                have q0 : ((i : Int) == 0) = false := by simp only [beq_eq_false_iff_ne, ne_eq]; omega
                have hlm : i - 1 < s.size := by omega
                have qm : ((s[i - 1].toNat : Int) == 32) = false := (ne_true (c := 32) hlm h35c).2
                have x1 : (1 : Int) ≤ (i : Int) := by omega
                have x2 : ((i : Int) - 1).toNat = i - 1 := by omega
                have HW := Lib.hid (show x = wrO i from HX.out.symm.trans (rdO_hash hc))
                have HM2 := Lib.hid m2
                clear hc h32 h35 h35c m2
                go_wp2_with fail
                refine (prSyntax_any i _).mono ?_
                rintro e w3 ⟨rfl, hb⟩
                have m3 := HM2.out.below hb
                have HM := Lib.hid m3
                have a0 := cell_hp m3.tk 0 _ rfl
                have a1 := cell_hp m3.tk 1 _ rfl
                have a2 := cell_hp m3.tk 2 _ rfl
                have e0 := free_hp m3.tk 0
                have e1 := free_hp m3.tk 1
                have e2 := free_hp m3.tk 2
                have d0 := cell_hp m3.fa 0 _ rfl
                have d1 := cell_hp m3.fa 1 _ rfl
                have f0 := free_hp m3.fa 0
                have f1 := free_hp m3.fa 1
                clear hb m3
                go_wp2
                go_meet
                have m4 := HM.out.setF (c2 := 3) (p2 := (i : Nat)) hTl
                rw [HW.out]
                exact ⟨rfl, ⟨.inr (show (3 : Nat) ≠ 0 by omega), m4.tk, m4.fa, m4.st⟩⟩
            clear h35
            have n35 := hc
            clear hc
            by_cases hf : flowB (bt s i) = true
            · have hC := fun w9 (hb : Below w2.heap.size w2 w9) => prSign_any2 i w9 (m2.st.below hb) hs hlt (by omega) hf
              have hE : flO s i op = x := (rdO_flow hf).symm.trans HX.out
              obtain ⟨y, hy⟩ : ∃ y, nm x = y := ⟨_, rfl⟩
              rw [hE, hy] at hC
              have HY := Lib.hid hy
              have hxn : x.c = 0 → x.n = i + 1 := fun hc0 => by rw [← hE] at hc0 ⊢; exact flO_n hc0
              have HN := Lib.hid hxn
              obtain ⟨yk, ya, yt, yn, yo, yc, yp⟩ := y
              simp only at hC
              have hcs := flow_cases hf (bt_lt s i)
              clear hE hy hxn hf h32
              rcases hcs with hc | hc | hc | hc | hc
              · as_aux_lemma =>
                  have q35 : ((s[i].toNat : Int) == 35) = false := (ne_true (c := 35) hlt (by omega)).2
                  have q44 : ((s[i].toNat : Int) == 44) = false := (ne_true (c := 44) hlt (by omega)).2
                  have q91 : ((s[i].toNat : Int) == 91) = true := (eq_true (c := 91) hlt hc).2
                  have HM2 := Lib.hid m2
                  clear hc m2 n35
                  go_wp2_with fail
                  refine (hC _ ?_).mono ?_
                  · exact Below.refl _ _
                  rintro e w3 ⟨rfl, hst3, hkp⟩
                  have hx1 : w3.heap[T]? = some (.cells #[.int .i64 0, .int .i64 0, .string ⟨#[]⟩] 38) := (hkp.2 T (hlt_of HM2.out.tk) (by have := hTl.b; omega) (by have := hTl.g; omega)).trans HM2.out.tk
                  have hx2 : w3.heap[T + 1]? = some (.cells #[.int .i64 0, .int .i64 0] 27) := (hkp.2 (T + 1) (hlt_of HM2.out.fa) (by have := hTl.b; omega) (by have := hTl.g; omega)).trans HM2.out.fa
                  have a0 := cell_hp hx1 0 _ rfl
                  have a1 := cell_hp hx1 1 _ rfl
                  have a2 := cell_hp hx1 2 _ rfl
                  have e0 := free_hp hx1 0
                  have e1 := free_hp hx1 1
                  have e2 := free_hp hx1 2
                  have d0 := cell_hp hx2 0 _ rfl
                  have d1 := cell_hp hx2 1 _ rfl
                  have f0 := free_hp hx2 0
                  have f1 := free_hp hx2 1
                  have HS3 := Lib.hid hst3
                  have HX1 := Lib.hid hx1
                  have HX2 := Lib.hid hx2
                  clear hst3 hkp hx1 hx2 hC
                  go_wp2
                  go_meet
                  have hmid := mid_of (x := x) HS3.out hTl HX1.out HX2.out
                  rw [HY.out] at hmid
                  refine ⟨rfl, ?_, hmid.tk, hmid.fa, hmid.st⟩
                  by_cases hc0 : x.c = 0
                  · left; rw [nm_ok hc0]; simp only; rw [HN.out hc0]; rfl
                  · exact .inr hc0
              · as_aux_lemma =>
                  have q35 : ((s[i].toNat : Int) == 35) = false := (ne_true (c := 35) hlt (by omega)).2
                  have q44 : ((s[i].toNat : Int) == 44) = false := (ne_true (c := 44) hlt (by omega)).2
                  have q91 : ((s[i].toNat : Int) == 91) = false := (ne_true (c := 91) hlt (by omega)).2
                  have q93 : ((s[i].toNat : Int) == 93) = false := (ne_true (c := 93) hlt (by omega)).2
                  have q123 : ((s[i].toNat : Int) == 123) = true := (eq_true (c := 123) hlt hc).2
                  have HM2 := Lib.hid m2
                  clear hc m2 n35
                  go_wp2_with fail
                  refine (hC _ ?_).mono ?_
                  · exact Below.refl _ _
                  rintro e w3 ⟨rfl, hst3, hkp⟩
                  have hx1 : w3.heap[T]? = some (.cells #[.int .i64 0, .int .i64 0, .string ⟨#[]⟩] 38) := (hkp.2 T (hlt_of HM2.out.tk) (by have := hTl.b; omega) (by have := hTl.g; omega)).trans HM2.out.tk
                  have hx2 : w3.heap[T + 1]? = some (.cells #[.int .i64 0, .int .i64 0] 27) := (hkp.2 (T + 1) (hlt_of HM2.out.fa) (by have := hTl.b; omega) (by have := hTl.g; omega)).trans HM2.out.fa
                  have a0 := cell_hp hx1 0 _ rfl
                  have a1 := cell_hp hx1 1 _ rfl
                  have a2 := cell_hp hx1 2 _ rfl
                  have e0 := free_hp hx1 0
                  have e1 := free_hp hx1 1
                  have e2 := free_hp hx1 2
                  have d0 := cell_hp hx2 0 _ rfl
                  have d1 := cell_hp hx2 1 _ rfl
                  have f0 := free_hp hx2 0
                  have f1 := free_hp hx2 1
                  have HS3 := Lib.hid hst3
                  have HX1 := Lib.hid hx1
                  have HX2 := Lib.hid hx2
                  clear hst3 hkp hx1 hx2 hC
                  go_wp2
                  go_meet
                  have hmid := mid_of (x := x) HS3.out hTl HX1.out HX2.out
                  rw [HY.out] at hmid
                  refine ⟨rfl, ?_, hmid.tk, hmid.fa, hmid.st⟩
                  by_cases hc0 : x.c = 0
                  · left; rw [nm_ok hc0]; simp only; rw [HN.out hc0]; rfl
                  · exact .inr hc0
              · as_aux_lemma =>
                  have q35 : ((s[i].toNat : Int) == 35) = false := (ne_true (c := 35) hlt (by omega)).2
                  have q44 : ((s[i].toNat : Int) == 44) = true := (eq_true (c := 44) hlt hc).2
                  have HM2 := Lib.hid m2
                  clear hc m2 n35
                  go_wp2_with fail
                  refine (hC _ ?_).mono ?_
                  · exact Below.refl _ _
                  rintro e w3 ⟨rfl, hst3, hkp⟩
                  have hx1 : w3.heap[T]? = some (.cells #[.int .i64 0, .int .i64 0, .string ⟨#[]⟩] 38) := (hkp.2 T (hlt_of HM2.out.tk) (by have := hTl.b; omega) (by have := hTl.g; omega)).trans HM2.out.tk
                  have hx2 : w3.heap[T + 1]? = some (.cells #[.int .i64 0, .int .i64 0] 27) := (hkp.2 (T + 1) (hlt_of HM2.out.fa) (by have := hTl.b; omega) (by have := hTl.g; omega)).trans HM2.out.fa
                  have a0 := cell_hp hx1 0 _ rfl
                  have a1 := cell_hp hx1 1 _ rfl
                  have a2 := cell_hp hx1 2 _ rfl
                  have e0 := free_hp hx1 0
                  have e1 := free_hp hx1 1
                  have e2 := free_hp hx1 2
                  have d0 := cell_hp hx2 0 _ rfl
                  have d1 := cell_hp hx2 1 _ rfl
                  have f0 := free_hp hx2 0
                  have f1 := free_hp hx2 1
                  have HS3 := Lib.hid hst3
                  have HX1 := Lib.hid hx1
                  have HX2 := Lib.hid hx2
                  clear hst3 hkp hx1 hx2 hC
                  go_wp2
                  go_meet
                  have hmid := mid_of (x := x) HS3.out hTl HX1.out HX2.out
                  rw [HY.out] at hmid
                  refine ⟨rfl, ?_, hmid.tk, hmid.fa, hmid.st⟩
                  by_cases hc0 : x.c = 0
                  · left; rw [nm_ok hc0]; simp only; rw [HN.out hc0]; rfl
                  · exact .inr hc0
              · as_aux_lemma =>
                  have q35 : ((s[i].toNat : Int) == 35) = false := (ne_true (c := 35) hlt (by omega)).2
                  have q44 : ((s[i].toNat : Int) == 44) = false := (ne_true (c := 44) hlt (by omega)).2
                  have q91 : ((s[i].toNat : Int) == 91) = false := (ne_true (c := 91) hlt (by omega)).2
                  have q93 : ((s[i].toNat : Int) == 93) = true := (eq_true (c := 93) hlt hc).2
                  have HM2 := Lib.hid m2
                  clear hc m2 n35
                  go_wp2_with fail
                  refine (hC _ ?_).mono ?_
                  · exact Below.refl _ _
                  rintro e w3 ⟨rfl, hst3, hkp⟩
                  have hx1 : w3.heap[T]? = some (.cells #[.int .i64 0, .int .i64 0, .string ⟨#[]⟩] 38) := (hkp.2 T (hlt_of HM2.out.tk) (by have := hTl.b; omega) (by have := hTl.g; omega)).trans HM2.out.tk
                  have hx2 : w3.heap[T + 1]? = some (.cells #[.int .i64 0, .int .i64 0] 27) := (hkp.2 (T + 1) (hlt_of HM2.out.fa) (by have := hTl.b; omega) (by have := hTl.g; omega)).trans HM2.out.fa
                  have a0 := cell_hp hx1 0 _ rfl
                  have a1 := cell_hp hx1 1 _ rfl
                  have a2 := cell_hp hx1 2 _ rfl
                  have e0 := free_hp hx1 0
                  have e1 := free_hp hx1 1
                  have e2 := free_hp hx1 2
                  have d0 := cell_hp hx2 0 _ rfl
                  have d1 := cell_hp hx2 1 _ rfl
                  have f0 := free_hp hx2 0
                  have f1 := free_hp hx2 1
                  have HS3 := Lib.hid hst3
                  have HX1 := Lib.hid hx1
                  have HX2 := Lib.hid hx2
                  clear hst3 hkp hx1 hx2 hC
                  go_wp2
                  go_meet
                  have hmid := mid_of (x := x) HS3.out hTl HX1.out HX2.out
                  rw [HY.out] at hmid
                  refine ⟨rfl, ?_, hmid.tk, hmid.fa, hmid.st⟩
                  by_cases hc0 : x.c = 0
                  · left; rw [nm_ok hc0]; simp only; rw [HN.out hc0]; rfl
                  · exact .inr hc0
              · as_aux_lemma =>
                  have q35 : ((s[i].toNat : Int) == 35) = false := (ne_true (c := 35) hlt (by omega)).2
                  have q44 : ((s[i].toNat : Int) == 44) = false := (ne_true (c := 44) hlt (by omega)).2
                  have q91 : ((s[i].toNat : Int) == 91) = false := (ne_true (c := 91) hlt (by omega)).2
                  have q93 : ((s[i].toNat : Int) == 93) = false := (ne_true (c := 93) hlt (by omega)).2
                  have q123 : ((s[i].toNat : Int) == 123) = false := (ne_true (c := 123) hlt (by omega)).2
                  have q125 : ((s[i].toNat : Int) == 125) = true := (eq_true (c := 125) hlt hc).2
                  have HM2 := Lib.hid m2
                  clear hc m2 n35
                  go_wp2_with fail
                  refine (hC _ ?_).mono ?_
                  · exact Below.refl _ _
                  rintro e w3 ⟨rfl, hst3, hkp⟩
                  have hx1 : w3.heap[T]? = some (.cells #[.int .i64 0, .int .i64 0, .string ⟨#[]⟩] 38) := (hkp.2 T (hlt_of HM2.out.tk) (by have := hTl.b; omega) (by have := hTl.g; omega)).trans HM2.out.tk
                  have hx2 : w3.heap[T + 1]? = some (.cells #[.int .i64 0, .int .i64 0] 27) := (hkp.2 (T + 1) (hlt_of HM2.out.fa) (by have := hTl.b; omega) (by have := hTl.g; omega)).trans HM2.out.fa
                  have a0 := cell_hp hx1 0 _ rfl
                  have a1 := cell_hp hx1 1 _ rfl
                  have a2 := cell_hp hx1 2 _ rfl
                  have e0 := free_hp hx1 0
                  have e1 := free_hp hx1 1
                  have e2 := free_hp hx1 2
                  have d0 := cell_hp hx2 0 _ rfl
                  have d1 := cell_hp hx2 1 _ rfl
                  have f0 := free_hp hx2 0
                  have f1 := free_hp hx2 1
                  have HS3 := Lib.hid hst3
                  have HX1 := Lib.hid hx1
                  have HX2 := Lib.hid hx2
                  clear hst3 hkp hx1 hx2 hC
                  go_wp2
                  go_meet
                  have hmid := mid_of (x := x) HS3.out hTl HX1.out HX2.out
                  rw [HY.out] at hmid
                  refine ⟨rfl, ?_, hmid.tk, hmid.fa, hmid.st⟩
                  by_cases hc0 : x.c = 0
                  · left; rw [nm_ok hc0]; simp only; rw [HN.out hc0]; rfl
                  · exact .inr hc0
            have n44 : bt s i ≠ 44 := fun e => hf (by rw [e]; decide)
            have n91 : bt s i ≠ 91 := fun e => hf (by rw [e]; decide)
            have n93 : bt s i ≠ 93 := fun e => hf (by rw [e]; decide)
            have n123 : bt s i ≠ 123 := fun e => hf (by rw [e]; decide)
            have n125 : bt s i ≠ 125 := fun e => hf (by rw [e]; decide)
            have hf0 : flowB (bt s i) = false := by simpa using hf
            clear hf
            by_cases hc : bt s i = 38
            · as_aux_lemma =>
                have hC := fun w9 (hb : Below w2.heap.size w2 w9) => prNamed_any i w9 (m2.st.below hb) hs hlt (by omega)
                have hE : rdO s i op 0 = x := by rw [← HX.out, rdO_amp hc, rdO_amp hc]
                have hop : (if x.c = 0 then x.o else op) = op := by rw [← HX.out, rdO_amp hc]; exact naO_op _ _ _ _ _
                obtain ⟨y, hy⟩ : ∃ y, nm x = y := ⟨_, rfl⟩
                rw [hE, hy] at hC
                have HY := Lib.hid hy
                have HOP := Lib.hid hop
                have HM2 := Lib.hid m2
                obtain ⟨yk, ya, yt, yn, yo, yc, yp⟩ := y
                simp only [TupV] at hC
                clear hE hy hop m2
                have q35 : ((s[i].toNat : Int) == 35) = false := (ne_true (c := 35) hlt n35).2
                have q44 : ((s[i].toNat : Int) == 44) = false := (ne_true (c := 44) hlt n44).2
                have q91 : ((s[i].toNat : Int) == 91) = false := (ne_true (c := 91) hlt n91).2
                have q93 : ((s[i].toNat : Int) == 93) = false := (ne_true (c := 93) hlt n93).2
                have q123 : ((s[i].toNat : Int) == 123) = false := (ne_true (c := 123) hlt n123).2
                have q125 : ((s[i].toNat : Int) == 125) = false := (ne_true (c := 125) hlt n125).2
                have q38 : ((s[i].toNat : Int) == 38) = true := (eq_true (c := 38) hlt hc).2
                clear hc n35 n44 n91 n93 n123 n125 hf0 h32
                have hbq := Below.refl w2.heap.size w2
                go_wp2_with fail
                refine (hC _ ?_).mono ?_
                · exact hbq
                rintro e w3 ⟨rfl, hb⟩
                have m3 := (HM2.out.below hbq).below hb
                have a0 := cell_hp m3.tk 0 _ rfl
                have a1 := cell_hp m3.tk 1 _ rfl
                have a2 := cell_hp m3.tk 2 _ rfl
                have e0 := free_hp m3.tk 0
                have e1 := free_hp m3.tk 1
                have e2 := free_hp m3.tk 2
                have d0 := cell_hp m3.fa 0 _ rfl
                have d1 := cell_hp m3.fa 1 _ rfl
                have f0 := free_hp m3.fa 0
                have f1 := free_hp m3.fa 1
                have HM := Lib.hid m3
                clear hb m3 hC hbq
                go_wp2
                go_meet
                have hmid := mid_of (x := x) (op := op) (by rw [HOP.out]; exact HM.out.st) hTl HM.out.tk HM.out.fa
                rw [HY.out] at hmid
                exact ⟨rfl, hmid⟩
            have n38 := hc
            clear hc
            by_cases hc : bt s i = 42
            · as_aux_lemma =>
                have hC := fun w9 (hb : Below w2.heap.size w2 w9) => prNamed_any i w9 (m2.st.below hb) hs hlt (by omega)
                have hE : rdO s i op 0 = x := by rw [← HX.out, rdO_star hc, rdO_star hc]
                have hop : (if x.c = 0 then x.o else op) = op := by rw [← HX.out, rdO_star hc]; exact naO_op _ _ _ _ _
                obtain ⟨y, hy⟩ : ∃ y, nm x = y := ⟨_, rfl⟩
                rw [hE, hy] at hC
                have HY := Lib.hid hy
                have HOP := Lib.hid hop
                have HM2 := Lib.hid m2
                obtain ⟨yk, ya, yt, yn, yo, yc, yp⟩ := y
                simp only [TupV] at hC
                clear hE hy hop m2
                have q35 : ((s[i].toNat : Int) == 35) = false := (ne_true (c := 35) hlt n35).2
                have q44 : ((s[i].toNat : Int) == 44) = false := (ne_true (c := 44) hlt n44).2
                have q91 : ((s[i].toNat : Int) == 91) = false := (ne_true (c := 91) hlt n91).2
                have q93 : ((s[i].toNat : Int) == 93) = false := (ne_true (c := 93) hlt n93).2
                have q123 : ((s[i].toNat : Int) == 123) = false := (ne_true (c := 123) hlt n123).2
                have q125 : ((s[i].toNat : Int) == 125) = false := (ne_true (c := 125) hlt n125).2
                have q38 : ((s[i].toNat : Int) == 38) = false := (ne_true (c := 38) hlt (by omega)).2
                have q42 : ((s[i].toNat : Int) == 42) = true := (eq_true (c := 42) hlt hc).2
                clear hc n35 n44 n91 n93 n123 n125 hf0 h32
                have hbq := Below.refl w2.heap.size w2
                go_wp2_with fail
                refine (hC _ ?_).mono ?_
                · exact hbq
                rintro e w3 ⟨rfl, hb⟩
                have m3 := (HM2.out.below hbq).below hb
                have a0 := cell_hp m3.tk 0 _ rfl
                have a1 := cell_hp m3.tk 1 _ rfl
                have a2 := cell_hp m3.tk 2 _ rfl
                have e0 := free_hp m3.tk 0
                have e1 := free_hp m3.tk 1
                have e2 := free_hp m3.tk 2
                have d0 := cell_hp m3.fa 0 _ rfl
                have d1 := cell_hp m3.fa 1 _ rfl
                have f0 := free_hp m3.fa 0
                have f1 := free_hp m3.fa 1
                have HM := Lib.hid m3
                clear hb m3 hC hbq
                go_wp2
                go_meet
                have hmid := mid_of (x := x) (op := op) (by rw [HOP.out]; exact HM.out.st) hTl HM.out.tk HM.out.fa
                rw [HY.out] at hmid
                exact ⟨rfl, hmid⟩
            have n42 := hc
            clear hc
            by_cases hc : bt s i = 33
            · as_aux_lemma =>
                have hC := fun w9 (hb : Below w2.heap.size w2 w9) => prNamed_any i w9 (m2.st.below hb) hs hlt (by omega)
                have hE : rdO s i op 0 = x := by rw [← HX.out, rdO_bang hc, rdO_bang hc]
                have hop : (if x.c = 0 then x.o else op) = op := by rw [← HX.out, rdO_bang hc]; exact naO_op _ _ _ _ _
                obtain ⟨y, hy⟩ : ∃ y, nm x = y := ⟨_, rfl⟩
                rw [hE, hy] at hC
                have HY := Lib.hid hy
                have HOP := Lib.hid hop
                have HM2 := Lib.hid m2
                obtain ⟨yk, ya, yt, yn, yo, yc, yp⟩ := y
                simp only [TupV] at hC
                clear hE hy hop m2
                have q35 : ((s[i].toNat : Int) == 35) = false := (ne_true (c := 35) hlt n35).2
                have q44 : ((s[i].toNat : Int) == 44) = false := (ne_true (c := 44) hlt n44).2
                have q91 : ((s[i].toNat : Int) == 91) = false := (ne_true (c := 91) hlt n91).2
                have q93 : ((s[i].toNat : Int) == 93) = false := (ne_true (c := 93) hlt n93).2
                have q123 : ((s[i].toNat : Int) == 123) = false := (ne_true (c := 123) hlt n123).2
                have q125 : ((s[i].toNat : Int) == 125) = false := (ne_true (c := 125) hlt n125).2
                have q38 : ((s[i].toNat : Int) == 38) = false := (ne_true (c := 38) hlt (by omega)).2
                have q42 : ((s[i].toNat : Int) == 42) = false := (ne_true (c := 42) hlt (by omega)).2
                have q33 : ((s[i].toNat : Int) == 33) = true := (eq_true (c := 33) hlt hc).2
                clear hc n35 n44 n91 n93 n123 n125 hf0 h32
                have hbq := Below.refl w2.heap.size w2
                go_wp2_with fail
                refine (hC _ ?_).mono ?_
                · exact hbq
                rintro e w3 ⟨rfl, hb⟩
                have m3 := (HM2.out.below hbq).below hb
                have a0 := cell_hp m3.tk 0 _ rfl
                have a1 := cell_hp m3.tk 1 _ rfl
                have a2 := cell_hp m3.tk 2 _ rfl
                have e0 := free_hp m3.tk 0
                have e1 := free_hp m3.tk 1
                have e2 := free_hp m3.tk 2
                have d0 := cell_hp m3.fa 0 _ rfl
                have d1 := cell_hp m3.fa 1 _ rfl
                have f0 := free_hp m3.fa 0
                have f1 := free_hp m3.fa 1
                have HM := Lib.hid m3
                clear hb m3 hC hbq
                go_wp2
                go_meet
                have hmid := mid_of (x := x) (op := op) (by rw [HOP.out]; exact HM.out.st) hTl HM.out.tk HM.out.fa
                rw [HY.out] at hmid
                exact ⟨rfl, hmid⟩
            have n33 := hc
            clear hc
            by_cases hc : bt s i = 39
            · as_aux_lemma =>
                have hC := fun w9 (_ : Below w2.heap.size w2 w9) => prQuoted_any i op (sglQ s i) w9 sglQ_p
                have hE : quO i op (sglQ s i) = x := by rw [← HX.out, rdO_sq hc]
                have hop : (if x.c = 0 then x.o else op) = op := by rw [← HX.out, rdO_sq hc]; split <;> rfl
                have hR := readSingle_yes s i w2 (by omega) hlt hc
                rw [sglT_Q] at hR
                obtain ⟨q, hq⟩ : ∃ q, sglQ s i = q := ⟨_, rfl⟩
                rw [hq] at hR hC hE
                clear hq
                obtain ⟨qt, qn, qc, qp⟩ := q
                simp only [qT] at hR
                simp only at hC
                obtain ⟨y, hy⟩ : ∃ y, nm x = y := ⟨_, rfl⟩
                rw [hE, hy] at hC
                have HY := Lib.hid hy
                have HOP := Lib.hid hop
                have HM2 := Lib.hid m2
                obtain ⟨yk, ya, yt, yn, yo, yc, yp⟩ := y
                simp only [TupV] at hC
                clear hE hy hop m2
                have q35 : ((s[i].toNat : Int) == 35) = false := (ne_true (c := 35) hlt n35).2
                have q44 : ((s[i].toNat : Int) == 44) = false := (ne_true (c := 44) hlt n44).2
                have q91 : ((s[i].toNat : Int) == 91) = false := (ne_true (c := 91) hlt n91).2
                have q93 : ((s[i].toNat : Int) == 93) = false := (ne_true (c := 93) hlt n93).2
                have q123 : ((s[i].toNat : Int) == 123) = false := (ne_true (c := 123) hlt n123).2
                have q125 : ((s[i].toNat : Int) == 125) = false := (ne_true (c := 125) hlt n125).2
                have q38 : ((s[i].toNat : Int) == 38) = false := (ne_true (c := 38) hlt n38).2
                have q42 : ((s[i].toNat : Int) == 42) = false := (ne_true (c := 42) hlt n42).2
                have q33 : ((s[i].toNat : Int) == 33) = false := (ne_true (c := 33) hlt n33).2
                have q39 : ((s[i].toNat : Int) == 39) = true := (eq_true (c := 39) hlt hc).2
                clear hc n35 n44 n91 n93 n123 n125 hf0 h32 n38 n42 n33
                go_wp2_with fail
                refine hR.mono ?_
                rintro e w4 ⟨rfl, hbq⟩
                clear hR
                go_wp2_with fail
                refine (hC _ ?_).mono ?_
                · exact hbq
                rintro e w3 ⟨rfl, hb⟩
                have m3 := (HM2.out.below hbq).below hb
                have a0 := cell_hp m3.tk 0 _ rfl
                have a1 := cell_hp m3.tk 1 _ rfl
                have a2 := cell_hp m3.tk 2 _ rfl
                have e0 := free_hp m3.tk 0
                have e1 := free_hp m3.tk 1
                have e2 := free_hp m3.tk 2
                have d0 := cell_hp m3.fa 0 _ rfl
                have d1 := cell_hp m3.fa 1 _ rfl
                have f0 := free_hp m3.fa 0
                have f1 := free_hp m3.fa 1
                have HM := Lib.hid m3
                clear hb m3 hC hbq
                go_wp2
                go_meet
                have hmid := mid_of (x := x) (op := op) (by rw [HOP.out]; exact HM.out.st) hTl HM.out.tk HM.out.fa
                rw [HY.out] at hmid
                exact ⟨rfl, hmid⟩
            have n39 := hc
            clear hc
            by_cases hc : bt s i = 34
            · as_aux_lemma =>
                have hC := fun w9 (_ : Below w2.heap.size w2 w9) => prQuoted_any i op (dblQ s i) w9 dblQ_p
                have hE : quO i op (dblQ s i) = x := by rw [← HX.out, rdO_dq hc]
                have hop : (if x.c = 0 then x.o else op) = op := by rw [← HX.out, rdO_dq hc]; split <;> rfl
                have hR := readDouble_yes s i w2 (by omega) hlt hc (err_below HE0.out hbb)
                rw [dblT_Q] at hR
                obtain ⟨q, hq⟩ : ∃ q, dblQ s i = q := ⟨_, rfl⟩
                rw [hq] at hR hC hE
                clear hq
                obtain ⟨qt, qn, qc, qp⟩ := q
                simp only [qT] at hR
                simp only at hC
                obtain ⟨y, hy⟩ : ∃ y, nm x = y := ⟨_, rfl⟩
                rw [hE, hy] at hC
                have HY := Lib.hid hy
                have HOP := Lib.hid hop
                have HM2 := Lib.hid m2
                obtain ⟨yk, ya, yt, yn, yo, yc, yp⟩ := y
                simp only [TupV] at hC
                clear hE hy hop m2
                have q35 : ((s[i].toNat : Int) == 35) = false := (ne_true (c := 35) hlt n35).2
                have q44 : ((s[i].toNat : Int) == 44) = false := (ne_true (c := 44) hlt n44).2
                have q91 : ((s[i].toNat : Int) == 91) = false := (ne_true (c := 91) hlt n91).2
                have q93 : ((s[i].toNat : Int) == 93) = false := (ne_true (c := 93) hlt n93).2
                have q123 : ((s[i].toNat : Int) == 123) = false := (ne_true (c := 123) hlt n123).2
                have q125 : ((s[i].toNat : Int) == 125) = false := (ne_true (c := 125) hlt n125).2
                have q38 : ((s[i].toNat : Int) == 38) = false := (ne_true (c := 38) hlt n38).2
                have q42 : ((s[i].toNat : Int) == 42) = false := (ne_true (c := 42) hlt n42).2
                have q33 : ((s[i].toNat : Int) == 33) = false := (ne_true (c := 33) hlt n33).2
                have q39 : ((s[i].toNat : Int) == 39) = false := (ne_true (c := 39) hlt (by omega)).2
                have q34 : ((s[i].toNat : Int) == 34) = true := (eq_true (c := 34) hlt hc).2
                clear hc n35 n44 n91 n93 n123 n125 hf0 h32 n38 n42 n33
                go_wp2_with fail
                refine hR.mono ?_
                rintro e w4 ⟨rfl, hbq⟩
                clear hR
                go_wp2_with fail
                refine (hC _ ?_).mono ?_
                · exact hbq
                rintro e w3 ⟨rfl, hb⟩
                have m3 := (HM2.out.below hbq).below hb
                have a0 := cell_hp m3.tk 0 _ rfl
                have a1 := cell_hp m3.tk 1 _ rfl
                have a2 := cell_hp m3.tk 2 _ rfl
                have e0 := free_hp m3.tk 0
                have e1 := free_hp m3.tk 1
                have e2 := free_hp m3.tk 2
                have d0 := cell_hp m3.fa 0 _ rfl
                have d1 := cell_hp m3.fa 1 _ rfl
                have f0 := free_hp m3.fa 0
                have f1 := free_hp m3.fa 1
                have HM := Lib.hid m3
                clear hb m3 hC hbq
                go_wp2
                go_meet
                have hmid := mid_of (x := x) (op := op) (by rw [HOP.out]; exact HM.out.st) hTl HM.out.tk HM.out.fa
                rw [HY.out] at hmid
                exact ⟨rfl, hmid⟩
            have n34 := hc
            clear hc
            by_cases hc : bt s i = 124
            · as_aux_lemma =>
                have hC := fun w9 (hb : Below w2.heap.size w2 w9) => prHeader_any i w9 (m2.st.below hb) hs hlt hc
                have hE : hdO s i op = x := by rw [← HX.out, rdO_head hc]
                have hop : (if x.c = 0 then x.o else op) = op := by
                  rw [← HX.out, rdO_head hc]
                  unfold hdO
                  cases op with
                  | nil => rfl
                  | cons b o => rfl
                obtain ⟨y, hy⟩ : ∃ y, nm x = y := ⟨_, rfl⟩
                rw [hE, hy] at hC
                have HY := Lib.hid hy
                have HOP := Lib.hid hop
                have HM2 := Lib.hid m2
                obtain ⟨yk, ya, yt, yn, yo, yc, yp⟩ := y
                simp only [TupV] at hC
                clear hE hy hop m2
                have q35 : ((s[i].toNat : Int) == 35) = false := (ne_true (c := 35) hlt n35).2
                have q44 : ((s[i].toNat : Int) == 44) = false := (ne_true (c := 44) hlt n44).2
                have q91 : ((s[i].toNat : Int) == 91) = false := (ne_true (c := 91) hlt n91).2
                have q93 : ((s[i].toNat : Int) == 93) = false := (ne_true (c := 93) hlt n93).2
                have q123 : ((s[i].toNat : Int) == 123) = false := (ne_true (c := 123) hlt n123).2
                have q125 : ((s[i].toNat : Int) == 125) = false := (ne_true (c := 125) hlt n125).2
                have q38 : ((s[i].toNat : Int) == 38) = false := (ne_true (c := 38) hlt n38).2
                have q42 : ((s[i].toNat : Int) == 42) = false := (ne_true (c := 42) hlt n42).2
                have q33 : ((s[i].toNat : Int) == 33) = false := (ne_true (c := 33) hlt n33).2
                have q39 : ((s[i].toNat : Int) == 39) = false := (ne_true (c := 39) hlt n39).2
                have q34 : ((s[i].toNat : Int) == 34) = false := (ne_true (c := 34) hlt n34).2
                have q124 : ((s[i].toNat : Int) == 124) = true := (eq_true (c := 124) hlt hc).2
                clear hc n35 n44 n91 n93 n123 n125 hf0 h32 n38 n42 n33 n39 n34
                have hbq := Below.refl w2.heap.size w2
                go_wp2_with fail
                refine (hC _ ?_).mono ?_
                · exact hbq
                rintro e w3 ⟨rfl, hb⟩
                have m3 := (HM2.out.below hbq).below hb
                have a0 := cell_hp m3.tk 0 _ rfl
                have a1 := cell_hp m3.tk 1 _ rfl
                have a2 := cell_hp m3.tk 2 _ rfl
                have e0 := free_hp m3.tk 0
                have e1 := free_hp m3.tk 1
                have e2 := free_hp m3.tk 2
                have d0 := cell_hp m3.fa 0 _ rfl
                have d1 := cell_hp m3.fa 1 _ rfl
                have f0 := free_hp m3.fa 0
                have f1 := free_hp m3.fa 1
                have HM := Lib.hid m3
                clear hb m3 hC hbq
                go_wp2
                go_meet
                have hmid := mid_of (x := x) (op := op) (by rw [HOP.out]; exact HM.out.st) hTl HM.out.tk HM.out.fa
                rw [HY.out] at hmid
                exact ⟨rfl, hmid⟩
            have n124 := hc
            clear hc
            have q35 : ((s[i].toNat : Int) == 35) = false := (ne_true (c := 35) hlt n35).2
            have q44 : ((s[i].toNat : Int) == 44) = false := (ne_true (c := 44) hlt n44).2
            have q91 : ((s[i].toNat : Int) == 91) = false := (ne_true (c := 91) hlt n91).2
            have q93 : ((s[i].toNat : Int) == 93) = false := (ne_true (c := 93) hlt n93).2
            have q123 : ((s[i].toNat : Int) == 123) = false := (ne_true (c := 123) hlt n123).2
            have q125 : ((s[i].toNat : Int) == 125) = false := (ne_true (c := 125) hlt n125).2
            have q38 : ((s[i].toNat : Int) == 38) = false := (ne_true (c := 38) hlt n38).2
            have q42 : ((s[i].toNat : Int) == 42) = false := (ne_true (c := 42) hlt n42).2
            have q33 : ((s[i].toNat : Int) == 33) = false := (ne_true (c := 33) hlt n33).2
            have q39 : ((s[i].toNat : Int) == 39) = false := (ne_true (c := 39) hlt n39).2
            have q34 : ((s[i].toNat : Int) == 34) = false := (ne_true (c := 34) hlt n34).2
            have q124 : ((s[i].toNat : Int) == 124) = false := (ne_true (c := 124) hlt n124).2
            have hFl := fun w9 (hb : Below w2.heap.size w2 w9) => prFlow_any w9 (m2.st.below hb) _ rfl
            have hPa := fun w9 => parts_any s i (!op.isEmpty) w9 hlt (by omega)
            by_cases hc : bt s i = 45
            · have q45 : ((s[i].toNat : Int) == 45) = true := (eq_true (c := 45) hlt hc).2
              have hpn : partsB s i (!op.isEmpty) = false := parts_no (by omega)
              rw [hpn] at hPa
              by_cases hda : (i + 1 = s.size ∨ bt s (i + 1) = 32) ∧ ¬ 1 < lastK toks
              · as_aux_lemma =>
                  have hop0 : op = [] := Decidable.byContradiction (fun h0 => hda.2 (hA.out.inv h0))
                  have hD := prDash_true w2 m2.st hs hlt hda.1 (by have := hda.2; omega) hA.out.kk
                  have HW := Lib.hid (show x = ⟨1, i, [], i + 1, op, 0, 0⟩ by rw [← HX.out, hop0]; exact rdO_dash hc hda.1 hda.2)
                  have a0 := cell_hp m2.tk 0 _ rfl
                  have a1 := cell_hp m2.tk 1 _ rfl
                  have a2 := cell_hp m2.tk 2 _ rfl
                  have e0 := free_hp m2.tk 0
                  have e1 := free_hp m2.tk 1
                  have e2 := free_hp m2.tk 2
                  have d0 := cell_hp m2.fa 0 _ rfl
                  have d1 := cell_hp m2.fa 1 _ rfl
                  have f0 := free_hp m2.fa 0
                  have f1 := free_hp m2.fa 1
                  have HM2 := Lib.hid m2
                  clear hc hda hop0 m2 hFl hPa hpn hf0 h32 n35 n44 n91 n93 n123 n125 n38 n42 n33 n39 n34 n124
                  go_wp2_with fail
                  refine hD.mono ?_
                  rintro e w' ⟨rfl, rfl⟩
                  clear hD
                  go_wp2
                  go_meet
                  have hmid := mid_kind HM2.out.st hTl HM2.out.tk HM2.out.fa 1 i
                  rw [← HW.out] at hmid
                  exact ⟨rfl, hmid⟩
              · as_aux_lemma =>
                  have hD := prDash_false w2 m2.st hs hlt (show (i + 1 < s.size ∧ bt s (i + 1) ≠ 32) ∨ 1 < lastK toks from dash_or hlt hda) hA.out.kk
                  have hE : plO s i op = x := by
                    rw [← HX.out]
                    exact (rdO_nodash hf0 hc hlt hda).symm
                  have hC := fun w9 (hb : Below w2.heap.size w2 w9) => prPlain_any i w9 (m2.st.below hb) hs hlt
                  have hop : (if x.c = 0 then x.o else op) = op := by rw [← hE]; exact plO_op _ _ _
                  obtain ⟨y, hy⟩ : ∃ y, nm x = y := ⟨_, rfl⟩
                  rw [hE, hy] at hC
                  have HY := Lib.hid hy
                  have HOP := Lib.hid hop
                  have HM2 := Lib.hid m2
                  obtain ⟨yk, ya, yt, yn, yo, yc, yp⟩ := y
                  simp only [TupV] at hC
                  clear hE hy hop m2
                  clear hc hda hpn hf0 h32 n35 n44 n91 n93 n123 n125 n38 n42 n33 n39 n34 n124
                  have hbq := Below.refl w2.heap.size w2
                  obtain ⟨fl, hfl⟩ : ∃ fl, (!op.isEmpty) = fl := ⟨_, rfl⟩
                  rw [hfl] at hPa
                  simp only [hfl] at hFl
                  clear hfl
                  go_wp2_with fail
                  refine hD.mono ?_
                  rintro e w' ⟨rfl, rfl⟩
                  go_wp2_with fail
                  refine (hFl _ ?_).mono ?_
                  · exact Below.refl _ _
                  rintro e w' ⟨rfl, rfl⟩
                  go_wp2_with fail
                  refine (hPa _).mono ?_
                  rintro e w' ⟨rfl, rfl⟩
                  clear hD hFl hPa
                  go_wp2_with fail
                  refine (hC _ ?_).mono ?_
                  · exact hbq
                  rintro e w3 ⟨rfl, hb⟩
                  have m3 := (HM2.out.below hbq).below hb
                  have a0 := cell_hp m3.tk 0 _ rfl
                  have a1 := cell_hp m3.tk 1 _ rfl
                  have a2 := cell_hp m3.tk 2 _ rfl
                  have e0 := free_hp m3.tk 0
                  have e1 := free_hp m3.tk 1
                  have e2 := free_hp m3.tk 2
                  have d0 := cell_hp m3.fa 0 _ rfl
                  have d1 := cell_hp m3.fa 1 _ rfl
                  have f0 := free_hp m3.fa 0
                  have f1 := free_hp m3.fa 1
                  have HM := Lib.hid m3
                  clear hb m3 hC hbq
                  go_wp2
                  go_meet
                  have hmid := mid_of (x := x) (op := op) (by rw [HOP.out]; exact HM.out.st) hTl HM.out.tk HM.out.fa
                  rw [HY.out] at hmid
                  exact ⟨rfl, hmid⟩
            have n45 := hc
            clear hc
            have q45 : ((s[i].toNat : Int) == 45) = false := (ne_true (c := 45) hlt n45).2
            by_cases hc : bt s i = 58
            · as_aux_lemma =>
                have q58 : ((s[i].toNat : Int) == 58) = true := (eq_true (c := 58) hlt hc).2
                obtain ⟨fl, hfl⟩ : ∃ fl, (!op.isEmpty) = fl := ⟨_, rfl⟩
                simp only [hfl] at hFl
                cases hp : partsB s i (!op.isEmpty) with
                | true =>
                  rw [hp, hfl] at hPa
                  have HW := Lib.hid (show x = ⟨2, i, [], i + 1, op, 0, 0⟩ by rw [← HX.out]; exact rdO_colon hc hp)
                  have a0 := cell_hp m2.tk 0 _ rfl
                  have a1 := cell_hp m2.tk 1 _ rfl
                  have a2 := cell_hp m2.tk 2 _ rfl
                  have e0 := free_hp m2.tk 0
                  have e1 := free_hp m2.tk 1
                  have e2 := free_hp m2.tk 2
                  have d0 := cell_hp m2.fa 0 _ rfl
                  have d1 := cell_hp m2.fa 1 _ rfl
                  have f0 := free_hp m2.fa 0
                  have f1 := free_hp m2.fa 1
                  have HM2 := Lib.hid m2
                  clear hc hp hfl m2 hf0 h32 n35 n44 n91 n93 n123 n125 n38 n42 n33 n39 n34 n124 n45
                  go_wp2_with fail
                  refine (hFl _ ?_).mono ?_
                  · exact Below.refl _ _
                  rintro e w' ⟨rfl, rfl⟩
                  go_wp2_with fail
                  refine (hPa _).mono ?_
                  rintro e w' ⟨rfl, rfl⟩
                  clear hFl hPa
                  go_wp2
                  go_meet
                  have hmid := mid_kind HM2.out.st hTl HM2.out.tk HM2.out.fa 2 i
                  rw [← HW.out] at hmid
                  exact ⟨rfl, hmid⟩
                | false =>
                  rw [hp, hfl] at hPa
                  have hE : plO s i op = x := by
                    rw [← HX.out]
                    exact (rdO_plain hf0 n38 n42 n33 n124 n39 n34 hp (fun e => n45 e.1)).symm
                  have hC := fun w9 (hb : Below w2.heap.size w2 w9) => prPlain_any i w9 (m2.st.below hb) hs hlt
                  have hop : (if x.c = 0 then x.o else op) = op := by rw [← hE]; exact plO_op _ _ _
                  obtain ⟨y, hy⟩ : ∃ y, nm x = y := ⟨_, rfl⟩
                  rw [hE, hy] at hC
                  have HY := Lib.hid hy
                  have HOP := Lib.hid hop
                  have HM2 := Lib.hid m2
                  obtain ⟨yk, ya, yt, yn, yo, yc, yp⟩ := y
                  simp only [TupV] at hC
                  clear hE hy hop m2
                  clear hc hp hfl hf0 h32 n35 n44 n91 n93 n123 n125 n38 n42 n33 n39 n34 n124 n45
                  have hbq := Below.refl w2.heap.size w2
                  go_wp2_with fail
                  refine (hFl _ ?_).mono ?_
                  · exact Below.refl _ _
                  rintro e w' ⟨rfl, rfl⟩
                  go_wp2_with fail
                  refine (hPa _).mono ?_
                  rintro e w' ⟨rfl, rfl⟩
                  clear hFl hPa
                  go_wp2_with fail
                  refine (hC _ ?_).mono ?_
                  · exact hbq
                  rintro e w3 ⟨rfl, hb⟩
                  have m3 := (HM2.out.below hbq).below hb
                  have a0 := cell_hp m3.tk 0 _ rfl
                  have a1 := cell_hp m3.tk 1 _ rfl
                  have a2 := cell_hp m3.tk 2 _ rfl
                  have e0 := free_hp m3.tk 0
                  have e1 := free_hp m3.tk 1
                  have e2 := free_hp m3.tk 2
                  have d0 := cell_hp m3.fa 0 _ rfl
                  have d1 := cell_hp m3.fa 1 _ rfl
                  have f0 := free_hp m3.fa 0
                  have f1 := free_hp m3.fa 1
                  have HM := Lib.hid m3
                  clear hb m3 hC hbq
                  go_wp2
                  go_meet
                  have hmid := mid_of (x := x) (op := op) (by rw [HOP.out]; exact HM.out.st) hTl HM.out.tk HM.out.fa
                  rw [HY.out] at hmid
                  exact ⟨rfl, hmid⟩
            have n58 := hc
            clear hc
            have q58 : ((s[i].toNat : Int) == 58) = false := (ne_true (c := 58) hlt n58).2
            · as_aux_lemma =>
                have hE : plO s i op = x := by
                  rw [← HX.out]
                  exact (rdO_plain hf0 n38 n42 n33 n124 n39 n34 (parts_no n58) (fun e => n45 e.1)).symm
                have hC := fun w9 (hb : Below w2.heap.size w2 w9) => prPlain_any i w9 (m2.st.below hb) hs hlt
                have hop : (if x.c = 0 then x.o else op) = op := by rw [← hE]; exact plO_op _ _ _
                obtain ⟨y, hy⟩ : ∃ y, nm x = y := ⟨_, rfl⟩
                rw [hE, hy] at hC
                have HY := Lib.hid hy
                have HOP := Lib.hid hop
                have HM2 := Lib.hid m2
                obtain ⟨yk, ya, yt, yn, yo, yc, yp⟩ := y
                simp only [TupV] at hC
                clear hE hy hop m2
                clear hFl hPa hf0 h32 n35 n44 n91 n93 n123 n125 n38 n42 n33 n39 n34 n124 n45 n58
                have hbq := Below.refl w2.heap.size w2
                go_wp2_with fail
                refine (hC _ ?_).mono ?_
                · exact hbq
                rintro e w3 ⟨rfl, hb⟩
                have m3 := (HM2.out.below hbq).below hb
                have a0 := cell_hp m3.tk 0 _ rfl
                have a1 := cell_hp m3.tk 1 _ rfl
                have a2 := cell_hp m3.tk 2 _ rfl
                have e0 := free_hp m3.tk 0
                have e1 := free_hp m3.tk 1
                have e2 := free_hp m3.tk 2
                have d0 := cell_hp m3.fa 0 _ rfl
                have d1 := cell_hp m3.fa 1 _ rfl
                have f0 := free_hp m3.fa 0
                have f1 := free_hp m3.fa 1
                have HM := Lib.hid m3
                clear hb m3 hC hbq
                go_wp2
                go_meet
                have hmid := mid_of (x := x) (op := op) (by rw [HOP.out]; exact HM.out.st) hTl HM.out.tk HM.out.fa
                rw [HY.out] at hmid
                exact ⟨rfl, hmid⟩
          case rest =>
            obtain ⟨h5, hcut⟩ := hcut
            subst h5
            obtain ⟨k, a, t, n, o, c, p⟩ := x
            by_cases hc : c = 0
            · as_aux_lemma =>
                subst hc
                have h8 := hcut.nx.resolve_right (fun e => e rfl)
                rw [nm_ok rfl] at h8
                have m : M3 w w.heap.size B g s tv toks o T (k : Nat) 0 ⟨t.toArray⟩ 0 0 wc := by
                  have h := hcut.m3
                  rw [nm_ok rfl] at h
                  exact h
                have hT1 : Tok1 s i op (lastK toks) ⟨k, a, t, n, o, 0, p⟩ := by
                  have h := rdO_tok (op := op) (last := lastK toks) hlt (by rw [HX.out])
                  rwa [HX.out] at h
                have hkd : 1 ≤ k ∧ k ≤ 13 := hT1.kd
                have hn1 : i < n := hT1.gt
                have hn2 : n ≤ s.size := hT1.le
                have hol := hA.out.ol
                have HT1 := Lib.hid hT1
                clear hcut hT1 m2 h32 h35
                simp only at h8
                subst h8
                have a0 := cell_hp m.tk 0 _ rfl
                have a1 := cell_hp m.tk 1 _ rfl
                have a2 := cell_hp m.tk 2 _ rfl
                have e0 := free_hp m.tk 0
                have e1 := free_hp m.tk 1
                have e2 := free_hp m.tk 2
                have d0 := cell_hp m.fa 0 _ rfl
                have d1 := cell_hp m.fa 1 _ rfl
                have f0 := free_hp m.fa 0
                have f1 := free_hp m.fa 1
                have HM := Lib.hid m
                have hz : ((0 : Int) != 0) = false := rfl
                clear m
                go_wp2_with fail
                refine (bad_any _ _ _).mono ?_
                rintro e w6 ⟨rfl, hb⟩
                have m6 := HM.out.below hb
                clear a0 a1 a2 e0 e1 e2 d0 d1 f0 f1
                have a0 := cell_hp m6.tk 0 _ rfl
                have a1 := cell_hp m6.tk 1 _ rfl
                have a2 := cell_hp m6.tk 2 _ rfl
                have e0 := free_hp m6.tk 0
                have e1 := free_hp m6.tk 1
                have e2 := free_hp m6.tk 2
                have d0 := cell_hp m6.fa 0 _ rfl
                have d1 := cell_hp m6.fa 1 _ rfl
                have f0 := free_hp m6.fa 0
                have f1 := free_hp m6.fa 1
                have hEn := fun w7 (hb : Below w6.heap.size w6 w7) => prEnds_any k ⟨t.toArray⟩ n w7 (m6.st.below hb) hs hkd hn2
                have HM6 := Lib.hid m6
                clear hb m6
                go_wp2_with fail
                refine (hEn _ ?_).mono ?_
                · exact Below.refl _ _
                rintro e w7 ⟨rfl, hb⟩
                have m7 := HM6.out.below hb
                clear a0 a1 a2 e0 e1 e2 d0 d1 f0 f1
                have a0 := cell_hp m7.tk 0 _ rfl
                have a1 := cell_hp m7.tk 1 _ rfl
                have a2 := cell_hp m7.tk 2 _ rfl
                have e0 := free_hp m7.tk 0
                have e1 := free_hp m7.tk 1
                have e2 := free_hp m7.tk 2
                have d0 := cell_hp m7.fa 0 _ rfl
                have d1 := cell_hp m7.fa 1 _ rfl
                have f0 := free_hp m7.fa 0
                have f1 := free_hp m7.fa 1
                have HM7 := Lib.hid m7
                clear hb m7 hEn
                cases hB : endB s k n o with
                | true =>
                  have HB := Lib.hid hB
                  clear hB
                  go_wp2_with fail
                  refine (bad_any _ _ _).mono ?_
                  rintro e w8 ⟨rfl, hb⟩
                  have m8 := HM7.out.below hb
                  clear a0 a1 a2 e0 e1 e2 d0 d1 f0 f1
                  have a0 := cell_hp m8.tk 0 _ rfl
                  have a1 := cell_hp m8.tk 1 _ rfl
                  have a2 := cell_hp m8.tk 2 _ rfl
                  have e0 := free_hp m8.tk 0
                  have e1 := free_hp m8.tk 1
                  have e2 := free_hp m8.tk 2
                  have d0 := cell_hp m8.fa 0 _ rfl
                  have d1 := cell_hp m8.fa 1 _ rfl
                  have f0 := free_hp m8.fa 0
                  have f1 := free_hp m8.fa 1
                  have cB1 := cell_hp m8.st.row 1 _ rfl
                  have fB1 := free_hp m8.st.row 1
                  have hTB : ¬ T = B := by have := hTl.b; omega
                  have hBT : ¬ B = T := by have := hTl.b; omega
                  have m9 := m8.setA (a2 := (i : Nat)) hTl
                  have hown9 := m9.st.tok
                  have hBl9 := hlt_of m8.st.row
                  have hsz8 := m8.st.bel.size
                  have HM9 := Lib.hid m9
                  clear hb m8 m9
                  go_wp2_with (at_builtin; refine wpList_append_own _ rfl _ _ 24 rfl w.heap.size 38 j0 (.agg #[.int .i64 0, .int .i64 0, .string ⟨#[]⟩]) 3 32 Tryz.underlying24 hj0 hy0 hy1 hy2 rfl (by decide) _ _ _ rfl (hown9.alloc _) ⟨w8.heap.size, 0, none⟩ 1 1 [.int .i64 (k : Nat), .int .i64 (i : Nat), .string ⟨t.toArray⟩] rfl rfl (fun j u hj => cells_newS w8 _ _ _ _ j u hj) (fun u hu => by simp at hu; rcases hu with rfl | rfl | rfl <;> rfl) (by unfold maxLen at *; omega) (by omega) (by simp; omega) ?_)
                  intro v' w10 hown10 hgrow _
                  obtain ⟨gt, cp, rfl, _, _, _, _, _⟩ := own_cells hown10 (by omega)
                  obtain ⟨hrow10, hst10⟩ := HM9.out.st.tokn (x := (k, i, t)) ((Below.refl _ _).alloc (Nat.le_refl _) _) hgrow hown10
                  have rc1 := cell_hp hrow10 1 _ rfl
                  have rf1 := free_hp hrow10 1
                  have HN := Lib.hid (hA.out.step hlt H32.out H35.out HX.out rfl (endB_yes HB.out) HT1.out hst10)
                  clear hgrow hown10 hrow10 hst10 hown9 cB1 fB1 a0 a1 a2 e0 e1 e2 d0 d1 f0 f1 hA
                  go_wp2
                  go_roundw
                  case rel => exact ⟨f, n, o, _, toks ++ [(k, i, t)], rfl, HN⟩
                  case measure => simp [intOf]; omega
                | false =>
                  have HB := Lib.hid hB
                  clear hB
                  have HRW := Lib.hid (hA.out.eq.symm.trans (rwF_loose hlt H32.out H35.out HX.out rfl (endB_no HB.out).1 (endB_no HB.out).2))
                  go_wp2_with fail
                  refine (prSyntax_any _ _).mono ?_
                  rintro e w8 ⟨rfl, hb⟩
                  have m8 := HM7.out.below hb
                  clear a0 a1 a2 e0 e1 e2 d0 d1 f0 f1
                  have a0 := cell_hp m8.tk 0 _ rfl
                  have a1 := cell_hp m8.tk 1 _ rfl
                  have a2 := cell_hp m8.tk 2 _ rfl
                  have e0 := free_hp m8.tk 0
                  have e1 := free_hp m8.tk 1
                  have e2 := free_hp m8.tk 2
                  have d0 := cell_hp m8.fa 0 _ rfl
                  have d1 := cell_hp m8.fa 1 _ rfl
                  have f0 := free_hp m8.fa 0
                  have f1 := free_hp m8.fa 1
                  have m9 := m8.setF (c2 := 3) (p2 := (n : Nat)) hTl
                  have HM9 := Lib.hid m9
                  have hz3 : ((3 : Int) != 0) = true := rfl
                  clear hb m8 m9 hA
                  go_wp2_with fail
                  refine (bad_any _ _ _).mono ?_
                  rintro e w10 ⟨rfl, hb⟩
                  have m10 := HM9.out.below hb
                  clear a0 a1 a2 e0 e1 e2 d0 d1 f0 f1
                  have a0 := cell_hp m10.tk 0 _ rfl
                  have a1 := cell_hp m10.tk 1 _ rfl
                  have a2 := cell_hp m10.tk 2 _ rfl
                  have e0 := free_hp m10.tk 0
                  have e1 := free_hp m10.tk 1
                  have e2 := free_hp m10.tk 2
                  have d0 := cell_hp m10.fa 0 _ rfl
                  have d1 := cell_hp m10.fa 1 _ rfl
                  have f0 := free_hp m10.fa 0
                  have f1 := free_hp m10.fa 1
                  have r0 := cell_hp m10.st.res 0 _ rfl
                  have r1 := cell_hp m10.st.res 1 _ rfl
                  have g0 := free_hp m10.st.res 0
                  have g1 := free_hp m10.st.res 1
                  have HM10 := Lib.hid m10
                  clear hb m10
                  go_wp2
                  go_region
                  all_goals
                    (try go_wp2)
                    (try rw [Exit.noGoto_ret])
                    refine bodyPost_ret (v := .tuple #[.slice none 0 0, .agg #[.int .i64 3, .int .i64 (n : Nat)]]) (by simp [results, Tryz.results16, go_sem, r0, r1]) rfl ?_
                    exact prRes_bad (c := 3) HRW.out (((HM10.out).st.resBel _ _).drew)
            · as_aux_lemma =>
                have m : M3 w w.heap.size B g s tv toks op T 0 0 ⟨#[]⟩ (c : Nat) (p : Nat) wc := by
                  have h := hcut.m3
                  rw [nm_er hc, if_neg hc] at h
                  exact h
                have HRW := Lib.hid (hA.out.eq.symm.trans (rwF_bad hlt H32.out H35.out HX.out hc))
                have qc : ((c : Int) != 0) = true := by simp only [bne_iff_ne, ne_eq]; omega
                clear hcut m2 h32 h35 hA hc
                have a0 := cell_hp m.tk 0 _ rfl
                have a1 := cell_hp m.tk 1 _ rfl
                have a2 := cell_hp m.tk 2 _ rfl
                have e0 := free_hp m.tk 0
                have e1 := free_hp m.tk 1
                have e2 := free_hp m.tk 2
                have d0 := cell_hp m.fa 0 _ rfl
                have d1 := cell_hp m.fa 1 _ rfl
                have f0 := free_hp m.fa 0
                have f1 := free_hp m.fa 1
                have HM := Lib.hid m
                clear m
                go_wp2_with fail
                refine (bad_any _ _ _).mono ?_
                rintro e w6 ⟨rfl, hb⟩
                have m6 := HM.out.below hb
                clear a0 a1 a2 e0 e1 e2 d0 d1 f0 f1
                have a0 := cell_hp m6.tk 0 _ rfl
                have a1 := cell_hp m6.tk 1 _ rfl
                have a2 := cell_hp m6.tk 2 _ rfl
                have e0 := free_hp m6.tk 0
                have e1 := free_hp m6.tk 1
                have e2 := free_hp m6.tk 2
                have d0 := cell_hp m6.fa 0 _ rfl
                have d1 := cell_hp m6.fa 1 _ rfl
                have f0 := free_hp m6.fa 0
                have f1 := free_hp m6.fa 1
                have HM6 := Lib.hid m6
                clear hb m6
                go_wp2_with fail
                refine (bad_any _ _ _).mono ?_
                rintro e w7 ⟨rfl, hb⟩
                have m7 := HM6.out.below hb
                clear a0 a1 a2 e0 e1 e2 d0 d1 f0 f1
                have a0 := cell_hp m7.tk 0 _ rfl
                have a1 := cell_hp m7.tk 1 _ rfl
                have a2 := cell_hp m7.tk 2 _ rfl
                have e0 := free_hp m7.tk 0
                have e1 := free_hp m7.tk 1
                have e2 := free_hp m7.tk 2
                have d0 := cell_hp m7.fa 0 _ rfl
                have d1 := cell_hp m7.fa 1 _ rfl
                have f0 := free_hp m7.fa 0
                have f1 := free_hp m7.fa 1
                have r0 := cell_hp m7.st.res 0 _ rfl
                have r1 := cell_hp m7.st.res 1 _ rfl
                have g0 := free_hp m7.st.res 0
                have g1 := free_hp m7.st.res 1
                have HM7 := Lib.hid m7
                clear hb m7
                go_wp2
                go_region
                all_goals
                  (try go_wp2)
                  (try rw [Exit.noGoto_ret])
                  refine bodyPost_ret (v := .tuple #[.slice none 0 0, .agg #[.int .i64 (c : Nat), .int .i64 (p : Nat)]]) (by simp [results, Tryz.results16, go_sem, r0, r1]) rfl ?_
                  exact prRes_bad HRW.out (((HM7.out).st.resBel _ _).drew)
    · as_aux_lemma =>
        have hfin := hfin0 (fun e => hlt e.1)
        cases op with
        | nil =>
          have HQ := Lib.hid (hfin.1 rfl)
          clear hfin
          go_upto_region 43 with fail
          have hst9 := hA.out.st.below (Below.refl _ _)
          obtain ⟨w9, hw9⟩ : ∃ w9, wr = w9 := ⟨_, rfl⟩
          rw [hw9] at hst9 ⊢
          clear hw9
          have hF9 := fun w2 (hb : Below w9.heap.size w9 w2) => prFlow_any w2 (hst9.below hb) false rfl
          have HST9 := Lib.hid hst9
          have c1 := cell_hp hst9.row 1 _ rfl
          have r0 := cell_hp hst9.res 0 _ rfl
          have r1 := cell_hp hst9.res 1 _ rfl
          have g0 := free_hp hst9.res 0
          have g1 := free_hp hst9.res 1
          clear hst9 hA hfin0
          go_wp2_with fail
          refine (hF9 _ ?_).mono ?_
          · exact Below.refl _ _
          rintro e w' ⟨rfl, rfl⟩
          clear hF9
          go_wp2
          (try rw [Exit.noGoto_ret])
          refine bodyPost_ret (v := .tuple #[tv, .agg #[.int .i64 0, .int .i64 0]]) (by simp [results, Tryz.results16, go_sem, r0, r1]) rfl ?_
          exact prRes_ok HQ.out (HST9.out.resOwn _ _) (HST9.out.resBel _ _)
        | cons b o =>
          have HQ := Lib.hid (hfin.2 (by simp))
          clear hfin
          go_upto_region 43 with fail
          have hst9 := hA.out.st.below (Below.refl _ _)
          obtain ⟨w9, hw9⟩ : ∃ w9, wr = w9 := ⟨_, rfl⟩
          rw [hw9] at hst9 ⊢
          clear hw9
          have hF9 := fun w2 (hb : Below w9.heap.size w9 w2) => prFlow_any w2 (hst9.below hb) true rfl
          have HST9 := Lib.hid hst9
          clear hst9 hA hfin0
          go_wp2_with fail
          refine (hF9 _ ?_).mono ?_
          · exact Below.refl _ _
          rintro e w' ⟨rfl, rfl⟩
          clear hF9
          go_wp2_with fail
          refine (prSyntax_any _ _).mono ?_
          rintro e w8 ⟨rfl, hb⟩
          have hst8 := HST9.out.below hb
          have r0 := cell_hp hst8.res 0 _ rfl
          have r1 := cell_hp hst8.res 1 _ rfl
          have g0 := free_hp hst8.res 0
          have g1 := free_hp hst8.res 1
          have HST8 := Lib.hid hst8
          clear hb hst8 HST9
          go_wp2
          (try rw [Exit.noGoto_ret])
          refine bodyPost_ret (v := .tuple #[.slice none 0 0, .agg #[.int .i64 3, .int .i64 (s.size : Nat)]]) (by simp [results, Tryz.results16, go_sem, r0, r1]) rfl ?_
          exact prRes_bad (c := 3) HQ.out (HST8.out.resBel _ _)
end Go.Proofs.YtnnnanemefcmdaaGreatDoor
