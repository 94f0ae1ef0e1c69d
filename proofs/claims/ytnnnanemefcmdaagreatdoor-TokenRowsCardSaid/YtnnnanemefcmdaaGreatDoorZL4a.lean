/- The walk of TokenRows (layer 7). -/
import Derived.Test.YtnnnanemefcmdaaGreatDoorZSame
import Derived.Test.YtnnnanemefcmdaaGreatDoorZL1c
namespace Go.Proofs.YtnnnanemefcmdaaGreatDoor
open Go.RowKit

/-- The program's fault as it lies; from a world on all is as it was. -/
def Tr (w2 : World) (F : Nat) (c x : Int) (w' : World) : Prop :=
  w'.cell? ⟨F, 0, none⟩ = some (.int .i64 c) ∧ w'.cell? ⟨F, 1, none⟩ = some (.int .i64 x) ∧ F < w'.heap.size ∧ Below w2.heap.size w2 w'
theorem Tr.keep {w2 : World} {F : Nat} {c x : Int} {W w' : World} (hS : Tr w2 F c x W) (hb : Below W.heap.size W w') : Tr w2 F c x w' := by
  obtain ⟨h0, h1, h2, h3⟩ := hS
  have hz := hb.size
  exact ⟨(hb.cell (p := ⟨F, 0, none⟩) h2).trans h0, (hb.cell (p := ⟨F, 1, none⟩) h2).trans h1, by omega, h3.trans (hb.mono h3.size)⟩
theorem awake_tr {w2 : World} (hv : EnvT w2) (F : Nat) (c x : Int) (W : World) (hS : Tr w2 F c x W) :
    Calls Tryz.prog 7 #[] W fun e w' => e = .returned (.bool true) ∧ Tr w2 F c x w' :=
  (awake7_any W (hv.below hS.2.2.2)).mono fun _ _ ⟨h1, h2⟩ => ⟨h1, hS.keep h2⟩
theorem fault_tr {w2 : World} (a b : Int) (F : Nat) (c x : Int) (W : World) (hS : Tr w2 F c x W) :
    Calls Tryz.prog 10 #[.int .i64 a, .int .i64 b] W fun e w' => e = .returned (.agg #[.int .i64 a, .int .i64 b]) ∧ Tr w2 F c x w' :=
  (fault7_any a b W).mono fun _ _ ⟨h1, h2⟩ => ⟨h1, hS.keep h2⟩
theorem same_tr {w2 : World} (toks : List Tk) (base : Int) (B1 B2 : Nat) (l m : Value) (h1 : w2.ownsRow B1 38 3 l toks.length (toks.flatMap (tkR base))) (h2 : w2.ownsRow B2 41 3 m toks.length (toks.flatMap (tkR base))) (F : Nat) (c x : Int) (W : World) (hS : Tr w2 F c x W) :
    Calls Tryz.prog 11 #[l, m] W fun e w' => e = .returned (.bool true) ∧ Tr w2 F c x w' :=
  (same_any toks base B1 B2 l m W (own_below h1 hS.2.2.2) (own_below h2 hS.2.2.2)).mono fun _ _ ⟨h1, h2⟩ => ⟨h1, hS.keep h2⟩
set_option maxRecDepth 100000 in
set_option maxHeartbeats 4000000 in
theorem tokenRows_walk (s : ByteArray) (b : Int) (hs : s.size ≤ maxLen) (_hp : (Lit.int .i64 b).wf = true) (w : World) (hv : EnvT w) :
    Calls Tryz.prog 3 #[.string s, .int .i64 b] w fun e w' => e = .returned (.bool true) ∧ Below w.heap.size w w' := by
  unfold maxLen at hs
  by_cases h : 3000 < s.size
  · have hA := awake7_any w hv
    go_enter Tryz.func3, Tryz.ntmps3
    go_wp2_with fail
    refine hA.mono ?_
    rintro e w1 ⟨rfl, hb1⟩
    go_wp2
    go_ret
    exact ⟨rfl, hb1⟩
  have hs2 : s.size ≤ 3000 := by omega
  by_cases hn : b < -2199023255552 ∨ 2199023255552 < b
  · have hA := awake7_any w hv
    have hN := near_no b w hn
    clear hn
    go_enter Tryz.func3, Tryz.ntmps3
    go_wp2_with fail
    refine hN.mono ?_
    rintro e w' ⟨rfl, rfl⟩
    go_wp2_with fail
    refine hA.mono ?_
    rintro e w1 ⟨rfl, hb1⟩
    go_wp2
    go_ret
    exact ⟨rfl, hb1⟩
  have hb1 : -2199023255552 ≤ b := by omega
  have hb2 : b ≤ 2199023255552 := by omega
  have hN := near_yes b w hb1 hb2
  have hR := prRow_any s b w hs2 hb1 hb2 hv.er
  have hM := fun w => refRow_any s b w hs2 hb1 hb2
  obtain ⟨r, hr⟩ : ∃ r, rwT s = r := ⟨_, rfl⟩
  rw [hr] at hR
  simp only [hr] at hM
  obtain ⟨toks, c, p⟩ := r
  obtain ⟨x, hx⟩ : ∃ x, atI b (toks, c, p) = x := ⟨_, rfl⟩
  have HX := Lib.hid hx
  have HV := Lib.hid hv
  clear hn h hs hr hx hv hb1 hb2
  go_enter Tryz.func3, Tryz.ntmps3
  go_wp2_with fail
  refine hN.mono ?_
  rintro e w' ⟨rfl, rfl⟩
  go_wp2_with fail
  refine hR.mono ?_
  rintro e w1 ⟨v1, he, hown1, hb1⟩
  rw [HX.out] at he
  simp only at he hown1
  subst he
  have hB1 := hb1.alloc hb1.size (.cells #[.int .i64 (c : Nat), .int .i64 x] 27)
  have hF1 := heap_alloc_new w1 (.cells #[.int .i64 (c : Nat), .int .i64 x] 27)
  have hownA := hown1.alloc (.cells #[.int .i64 (c : Nat), .int .i64 x] 27)
  have HO1 := Lib.hid hownA
  clear hR hN hown1 hownA hb1
  go_wp2_with fail
  refine (hM _).mono ?_
  rintro e w2 ⟨v2, he, hown2, hb2⟩
  rw [HX.out] at he
  simp only at he hown2
  subst he
  have hS : Tr w2 w1.heap.size (c : Nat) x w2 := by
    have hx2 := (hb2.block w1.heap.size (by simp)).trans hF1
    exact ⟨cell_hp hx2 0 _ rfl, cell_hp hx2 1 _ rfl, hlt_of hx2, Below.refl _ _⟩
  have HO1' := Lib.hid (own_below HO1.out hb2)
  have HO2 := Lib.hid hown2
  have HB2 := Lib.hid (hB1.trans (hb2.mono hB1.size))
  have hV2 := Lib.hid (HV.out.below HB2.out)
  have HS0 := Lib.hid hS
  clear hM hown2 hb2 hB1 hF1 HO1 hS HV
  generalize w1.heap.size = F at *
  have t1 : ((c : Int) == (c : Int)) = true := by simp
  have t2 : (x == x) = true := by simp
  go_wp2_with fail
  first
    | go_region_held3 (fun w' => w'.cell? ⟨F, 0, none⟩ = some (.int .i64 (c : Nat)) ∧ w'.cell? ⟨F, 1, none⟩ = some (.int .i64 x) ∧ F < w'.heap.size ∧ Below w2.heap.size w2 w')
        (first | exact Tr.keep (w2 := w2) HS0.out ((Below.refl _ _).drew) | exact ‹Tr w2 _ _ _ _› | exact Tr.keep (w2 := w2) (F := F) (c := (c : Nat)) (x := x) ⟨‹_›, ‹_›, ‹_›, ‹_›⟩ ((Below.refl _ _).drew) | go_keep | fail)
        (first
          | (go_at_call 7; refine (awake_tr hV2.out F (c : Nat) x _ ?_).mono ?_; (first | exact HS0.out | exact ‹Tr w2 _ _ _ _› | exact ⟨‹_›, ‹_›, ‹_›, ‹_›⟩ | fail); rintro e w' ⟨rfl, hs'⟩)
          | (go_at_call 10; refine (fault_tr (c : Nat) x F (c : Nat) x _ hs').mono ?_; rintro e w'' ⟨rfl, hs''⟩)
          | (go_at_call 11; refine (same_tr toks b _ _ v1 v2 HO1'.out HO2.out F (c : Nat) x _ hs'').mono ?_; rintro e w''' ⟨rfl, hs'''⟩)
          | fail)
    | fail
  all_goals
    have hbz := HB2.out.trans (hs'''.2.2.2.mono HB2.out.size)
    clear HS0 hs'''
    go_wp2
    go_ret
    exact ⟨rfl, hbz⟩
end Go.Proofs.YtnnnanemefcmdaaGreatDoor
namespace Go.Proofs.YtnnnanemefcmdaaGreatDoor
open Go.RowKit

theorem tkR_zero (l : List Tk) : l.flatMap (tkR 0) = l.flatMap tk0 := by
  have : tkR 0 = tk0 := by funext x; simp [tkR, tk0]
  rw [this]
theorem mvC_cells (base : Int) (toks : List Tk) (m k a : Nat) (t : List UInt8) (h : toks[m]? = some (k, a, t)) : (mvC base toks (m + 1))[m * 3]? = some (.int .i64 (k : Nat)) ∧ (mvC base toks (m + 1))[m * 3 + 1]? = some (.int .i64 ((a : Nat) + base)) ∧ (mvC base toks (m + 1))[m * 3 + 2]? = some (.string ⟨t.toArray⟩) := by
  obtain ⟨hl, he⟩ := List.getElem?_eq_some_iff.1 h
  have ht : toks.take (m + 1) = toks.take m ++ [(k, a, t)] := by rw [List.take_succ_eq_append_getElem hl, he]
  have hlen : ((toks.take m).flatMap (tkR base)).length = m * 3 := by rw [flat3R, List.length_take]; omega
  have hf : mvC base toks (m + 1) = (toks.take m).flatMap (tkR base) ++ (tkR base (k, a, t) ++ (toks.drop (m + 1)).flatMap tk0) := by
    unfold mvC
    rw [ht, List.flatMap_append, List.append_assoc]
    rfl
  rw [hf]
  refine ⟨?_, ?_, ?_⟩
  · rw [List.getElem?_append_right (by omega), hlen, Nat.sub_self]; rfl
  · rw [List.getElem?_append_right (by omega), hlen, show m * 3 + 1 - m * 3 = 1 by omega]; rfl
  · rw [List.getElem?_append_right (by omega), hlen, show m * 3 + 2 - m * 3 = 2 by omega]; rfl
theorem own_cell {w : World} {base g n cap : Nat} {e : TypeId} {size : Nat} {xs : List Value} (h : w.ownsRow base e size (.slice (some ⟨g, 0, none⟩) n cap) n xs) (j : Nat) (u : Value) (hj : xs[j]? = some u) : w.cell? ⟨g, j, none⟩ = some u := by
  have := World.ownsRow.cells h (g := g) rfl j u hj
  rwa [show (⟨g, 0, none⟩ : Addr).add j = ⟨g, j, none⟩ by simp [Addr.add, eq_comm]] at this
set_option maxRecDepth 100000 in
set_option maxHeartbeats 8000000 in
theorem tokenMoves_walk (s : ByteArray) (b : Int) (hs : s.size ≤ maxLen) (_hp : (Lit.int .i64 b).wf = true) (w : World) (hv : EnvT w) :
    Calls Tryz.prog 5 #[.string s, .int .i64 b] w fun e w' => e = .returned (.bool true) ∧ Below w.heap.size w w' := by
  unfold maxLen at hs
  by_cases h : 1000 < s.size
  · have hA := awake7_any w hv
    go_enter Tryz.func5, Tryz.ntmps5
    go_wp2_with fail
    refine hA.mono ?_
    rintro e w1 ⟨rfl, hb1⟩
    go_wp2
    go_ret
    exact ⟨rfl, hb1⟩
  have hs2 : s.size ≤ 1000 := by omega
  by_cases hn : b < -2199023255552 ∨ 2199023255552 < b
  · have hA := awake7_any w hv
    have hN := near_no b w hn
    clear hn
    go_enter Tryz.func5, Tryz.ntmps5
    go_wp2_with fail
    refine hN.mono ?_
    rintro e w' ⟨rfl, rfl⟩
    go_wp2_with fail
    refine hA.mono ?_
    rintro e w1 ⟨rfl, hb1⟩
    go_wp2
    go_ret
    exact ⟨rfl, hb1⟩
  have hb1 : -2199023255552 ≤ b := by omega
  have hb2 : b ≤ 2199023255552 := by omega
  have hat := rwT_at s
  have hN := near_yes b w hb1 hb2
  have hR := prRow_any s 0 w (by omega) (by omega) (by omega) hv.er
  have hM := fun w9 (hb : Below w.heap.size w w9) => prRow_any s b w9 (by omega) hb1 hb2 (hv.below hb).er
  have hsh := rwT_shape s
  obtain ⟨r, hr⟩ : ∃ r, rwT s = r := ⟨_, rfl⟩
  rw [hr] at hR hat hsh
  simp only [hr] at hM
  obtain ⟨toks, c, p⟩ := r
  obtain ⟨x, hx⟩ : ∃ x, atI 0 (toks, c, p) = x := ⟨_, rfl⟩
  obtain ⟨y, hy⟩ : ∃ y, atI b (toks, c, p) = y := ⟨_, rfl⟩
  have hp1 : p ≤ 1000 := Nat.le_trans hat.2.1 hs2
  have HPL := Lib.hid (show ∀ x ∈ toks, x.2.1 < s.size from hat.1)
  have hxb : 0 ≤ x ∧ x ≤ 1000 := by rw [← hx]; unfold atI; split <;> (first | omega | (simp only; omega))
  have hxy : c ≠ 0 → x + b = y := fun hc => by rw [← hx, ← hy]; unfold atI; rw [if_neg hc, if_neg hc]; first | omega | (simp only; omega)
  have htk0 : c ≠ 0 → toks = [] := fun hc => by
    rcases hsh with h | ⟨_, h⟩
    · exact absurd (congrArg (fun q : List Tk × Nat × Nat => q.2.1) h) hc
    · exact congrArg (fun q : List Tk × Nat × Nat => q.1) h
  have HX := Lib.hid hx
  have HY := Lib.hid hy
  have HXY := Lib.hid hxy
  have HV := Lib.hid hv
  have HTK := Lib.hid htk0
  have hbb1 := hb1
  have hbb2 := hb2
  clear hn h hs hr hx hy hv hb1 hb2 hat hxy hsh htk0
  obtain ⟨hx1, hx2⟩ := hxb
  go_enter Tryz.func5, Tryz.ntmps5
  go_wp2_with fail
  refine hN.mono ?_
  rintro e w' ⟨rfl, rfl⟩
  go_wp2_with fail
  refine hR.mono ?_
  rintro e w1 ⟨v1, he, hown1, hb1⟩
  rw [HX.out] at he
  simp only at he hown1
  subst he
  have hB1 := hb1.alloc hb1.size (.cells #[.int .i64 (c : Nat), .int .i64 x] 27)
  have hF1 := heap_alloc_new w1 (.cells #[.int .i64 (c : Nat), .int .i64 x] 27)
  have HO1 := Lib.hid (hown1.alloc (.cells #[.int .i64 (c : Nat), .int .i64 x] 27))
  have hg1 : ∀ k, v1.ownBlock = some k → k < w1.heap.size := fun k hk => by
    rcases hown1.2 with ⟨rfl, _⟩ | ⟨g, cap, cur, rfl, _, hg, _⟩
    · cases hk
    · cases hk; exact hlt_of hg
  have HG1 := Lib.hid hg1
  clear hR hN hown1 hb1 hg1
  go_wp2_with fail
  refine (hM _ hB1).mono ?_
  rintro e w2 ⟨v2, he, hown2, hb2⟩
  rw [HY.out] at he
  simp only at he hown2
  subst he
  have hx3 := (hb2.block w1.heap.size (by simp)).trans hF1
  have hB2 := hB1.trans (hb2.mono hB1.size)
  have HO1' := Lib.hid (own_below HO1.out hb2)
  have HO2 := Lib.hid (show w2.ownsRow (w1.heap.size + 1) 38 3 v2 toks.length (toks.flatMap (tkR b)) by simpa using hown2)
  have hl3 := hlt_of hx3
  obtain ⟨F, hF⟩ : ∃ F, w1.heap.size = F := ⟨_, rfl⟩
  rw [hF] at hx3 HO2 HG1 hl3
  simp only [hF]
  clear hM hown2 hb2 hB1 hF1 HO1 hF
  have hx4 := heap_alloc_new w2 (.cells #[.int .i64 (c : Nat), .int .i64 y] 27)
  have hx3' := (Lib.alloc_old w2 (.cells #[.int .i64 (c : Nat), .int .i64 y] 27) F hl3).trans hx3
  have HB3 := Lib.hid (hB2.alloc hB2.size (.cells #[.int .i64 (c : Nat), .int .i64 y] 27))
  have HO3 := Lib.hid (HO1'.out.alloc (.cells #[.int .i64 (c : Nat), .int .i64 y] 27))
  have HO4 := Lib.hid (HO2.out.alloc (.cells #[.int .i64 (c : Nat), .int .i64 y] 27))
  obtain ⟨r1, c1, rfl⟩ : ∃ r1 c1, v1 = .slice r1 toks.length c1 := by
    rcases HO3.out.2 with ⟨rfl, hn⟩ | ⟨g, cap, cur, rfl, _⟩
    · exact ⟨none, 0, by rw [hn]⟩
    · exact ⟨_, _, rfl⟩
  obtain ⟨r2, c2, rfl⟩ : ∃ r2 c2, v2 = .slice r2 toks.length c2 := by
    rcases HO4.out.2 with ⟨rfl, hn⟩ | ⟨g, cap, cur, rfl, _⟩
    · exact ⟨none, 0, by rw [hn]⟩
    · exact ⟨_, _, rfl⟩
  have f0 := cell_hp hx3' 0 _ rfl
  have f1 := cell_hp hx3' 1 _ rfl
  have g0 := cell_hp hx4 0 _ rfl
  have g1 := cell_hp hx4 1 _ rfl
  have q1 : ((toks.length : Int) != (toks.length : Int)) = false := by simp
  have q2 : ((c : Int) != (c : Int)) = false := by simp
  have hFne : ¬ F = w2.heap.size := by omega
  clear hx3 hx3' hx4 hB2 HO1' HO2
  go_wp2_with fail
  refine (bad_any _ _ _).mono ?_
  rintro e w3 ⟨rfl, hb⟩
  have hl5 : F < (w2.alloc (.cells #[.int .i64 (c : Nat), .int .i64 y] 27)).heap.size := by simp; omega
  have k1 := (hb.cell (p := ⟨F, 1, none⟩) hl5).trans f1
  have k2 := (hb.cell (p := ⟨w2.heap.size, 1, none⟩) (by simp)).trans g1
  have HB5 := Lib.hid (HB3.out.trans (hb.mono HB3.out.size))
  have HO5 := Lib.hid (own_below HO3.out hb)
  have HO6 := Lib.hid (own_below HO4.out hb)
  clear hb f0 f1 g0 g1 HB3 HO3 HO4
  by_cases hc : c = 0
  · have qc : ((c : Int) != 0) = false := by simp only [bne_eq_false_iff_eq]; omega
    clear hc
    go_wp2
    go_loopw [57] (fun j wr => ∃ m : Nat, j = .int .i64 m ∧ m ≤ toks.length ∧ Hid (wr.ownsRow w.heap.size 38 3 (.slice r1 toks.length c1) toks.length (mvC b toks m) ∧ wr.ownsRow (F + 1) 38 3 (.slice r2 toks.length c2) toks.length (toks.flatMap (tkR b)) ∧ Below w.heap.size w wr)) (fun j _ => toks.length - (intOf j).toNat)
    case atStart => exact ⟨0, rfl, by omega, Lib.hid ⟨by have := HO5.out; rw [tkR_zero] at this; unfold mvC; simpa using this, HO6.out, HB5.out⟩⟩
    case round =>
      obtain ⟨m, rfl, hm, hI⟩ := hrel
      by_cases hlt : m < toks.length
      · obtain ⟨⟨k, a, t⟩, hx⟩ : ∃ x, toks[m]? = some x := ⟨_, List.getElem?_eq_getElem hlt⟩
        have hca : toks.length ≤ c1 ∧ c1 ≤ maxLen ∧ ∃ g, r1 = some ⟨g, 0, none⟩ := by
          rcases hI.out.1.2 with ⟨hv, hn⟩ | ⟨g, cap', cur, hv, _, _, h1, h2, _⟩
          · omega
          · cases hv; exact ⟨h1, h2, g, rfl⟩
        have hcb : toks.length ≤ c2 ∧ c2 ≤ maxLen ∧ ∃ g, r2 = some ⟨g, 0, none⟩ := by
          rcases hI.out.2.1.2 with ⟨hv, hn⟩ | ⟨g, cap', cur, hv, _, _, h1, h2, _⟩
          · omega
          · cases hv; exact ⟨h1, h2, g, rfl⟩
        obtain ⟨hc1, hc1m, g, rfl⟩ := hca
        obtain ⟨hc2, hc2m, h, rfl⟩ := hcb
        have hmv := mvC_get b toks m k a t hx
        have hmc := mvC_cells b toks m k a t hx
        have htc := tkR_cells b toks m k a t hx
        have hap : a < s.size := HPL.out _ (List.mem_of_getElem? hx)
        have e1 : wr.cell? ⟨g, m * 3 + 1, none⟩ = some (.int .i64 (a : Nat)) := own_cell hI.out.1 _ _ hmv.1
        obtain ⟨cur, hgg, hbg, _⟩ := own_gg hI.out.1
        obtain ⟨cur2, hhh, hbh, _⟩ := own_gg hI.out.2.1
        have f9 : wr.frozen? ⟨g, m * 3 + 1, none⟩ = false := free_hp hgg _
        have hgh : h ≠ g := by
          have := HG1.out g rfl
          omega
        have o9 : (wr.setCell ⟨g, m * 3 + 1, none⟩ (.int .i64 ((a : Nat) + b))).ownsRow w.heap.size 38 3 (.slice (some ⟨g, 0, none⟩) toks.length c1) toks.length (mvC b toks (m + 1)) := by rw [← hmv.2]; exact own_set hI.out.1 _ _
        have m9 := ownsRow_setCell_other hI.out.2.1 (a := ⟨g, m * 3 + 1, none⟩) (fun e => hgh (Option.some.inj e)) (.int .i64 ((a : Nat) + b))
        have b9 := hI.out.2.2.setCell (p := ⟨g, m * 3 + 1, none⟩) hbg (.int .i64 ((a : Nat) + b))
        have y1 : (0 : Int) ≤ (m : Int) := by omega
        have y2 : (m : Int) < (toks.length : Int) := by omega
        unfold maxLen at hc1m hc2m
        have O9 := Lib.hid o9
        have M9 := Lib.hid m9
        have B9 := Lib.hid b9
        have HMC := Lib.hid hmc
        have HTC := Lib.hid htc
        clear hI hx hmv hgg hhh o9 m9 b9 hmc htc
        go_wp2_with fail
        obtain ⟨W9, hW9⟩ : ∃ W9, wr.setCell ⟨g, m * 3 + 1, none⟩ (.int .i64 ((a : Nat) + b)) = W9 := ⟨_, rfl⟩
        rw [hW9] at O9 M9 B9 ⊢
        clear hW9 e1 f9
        have z0 := own_cell O9.out _ _ HMC.out.1
        have z1 := own_cell O9.out _ _ HMC.out.2.1
        have z2 := own_cell O9.out _ _ HMC.out.2.2
        have u0 := own_cell M9.out _ _ HTC.out.1
        have u1 := own_cell M9.out _ _ HTC.out.2.1
        have u2 := own_cell M9.out _ _ HTC.out.2.2
        go_quiet (fail)
        clear z0 z1 z2 u0 u1 u2
        go_wp2
        go_roundw
        case rel => exact ⟨m + 1, by go_num, by omega, Lib.hid ⟨own_drewN O9.out nq, own_drewN M9.out nq, bel_drewN B9.out nq⟩⟩
        case measure => simp [intOf]; omega
      · have hB9 := hI.out.2.2
        have HB9 := Lib.hid hB9
        clear hI hB9
        go_wp2_with fail
        refine (awake7_any _ (HV.out.below HB9.out)).mono ?_
        rintro e w9 ⟨rfl, hb⟩
        have hz := HB9.out.trans (hb.mono HB9.out.size)
        clear hb
        go_wp2
        go_ret
        exact ⟨rfl, hz⟩
  · have qc : ((c : Int) != 0) = true := by simp only [bne_iff_ne, ne_eq]; omega
    have qs : ((x + b) != y) = false := by simp only [bne_eq_false_iff_eq]; exact HXY.out hc
    clear hc
    go_wp2
    go_loopw [57] (fun j wr => ∃ m : Nat, j = .int .i64 m ∧ m ≤ toks.length ∧ Hid (wr.ownsRow w.heap.size 38 3 (.slice r1 toks.length c1) toks.length (mvC b toks m) ∧ wr.ownsRow (F + 1) 38 3 (.slice r2 toks.length c2) toks.length (toks.flatMap (tkR b)) ∧ Below w.heap.size w wr)) (fun j _ => toks.length - (intOf j).toNat)
    case atStart => exact ⟨0, rfl, by omega, Lib.hid ⟨by have := HO5.out; rw [tkR_zero] at this; unfold mvC; simpa using this, HO6.out, HB5.out⟩⟩
    case round =>
      obtain ⟨m, rfl, hm, hI⟩ := hrel
      by_cases hlt : m < toks.length
      · obtain ⟨⟨k, a, t⟩, hx⟩ : ∃ x, toks[m]? = some x := ⟨_, List.getElem?_eq_getElem hlt⟩
        have hca : toks.length ≤ c1 ∧ c1 ≤ maxLen ∧ ∃ g, r1 = some ⟨g, 0, none⟩ := by
          rcases hI.out.1.2 with ⟨hv, hn⟩ | ⟨g, cap', cur, hv, _, _, h1, h2, _⟩
          · omega
          · cases hv; exact ⟨h1, h2, g, rfl⟩
        have hcb : toks.length ≤ c2 ∧ c2 ≤ maxLen ∧ ∃ g, r2 = some ⟨g, 0, none⟩ := by
          rcases hI.out.2.1.2 with ⟨hv, hn⟩ | ⟨g, cap', cur, hv, _, _, h1, h2, _⟩
          · omega
          · cases hv; exact ⟨h1, h2, g, rfl⟩
        obtain ⟨hc1, hc1m, g, rfl⟩ := hca
        obtain ⟨hc2, hc2m, h, rfl⟩ := hcb
        have hmv := mvC_get b toks m k a t hx
        have hmc := mvC_cells b toks m k a t hx
        have htc := tkR_cells b toks m k a t hx
        have hap : a < s.size := HPL.out _ (List.mem_of_getElem? hx)
        have e1 : wr.cell? ⟨g, m * 3 + 1, none⟩ = some (.int .i64 (a : Nat)) := own_cell hI.out.1 _ _ hmv.1
        obtain ⟨cur, hgg, hbg, _⟩ := own_gg hI.out.1
        obtain ⟨cur2, hhh, hbh, _⟩ := own_gg hI.out.2.1
        have f9 : wr.frozen? ⟨g, m * 3 + 1, none⟩ = false := free_hp hgg _
        have hgh : h ≠ g := by
          have := HG1.out g rfl
          omega
        have o9 : (wr.setCell ⟨g, m * 3 + 1, none⟩ (.int .i64 ((a : Nat) + b))).ownsRow w.heap.size 38 3 (.slice (some ⟨g, 0, none⟩) toks.length c1) toks.length (mvC b toks (m + 1)) := by rw [← hmv.2]; exact own_set hI.out.1 _ _
        have m9 := ownsRow_setCell_other hI.out.2.1 (a := ⟨g, m * 3 + 1, none⟩) (fun e => hgh (Option.some.inj e)) (.int .i64 ((a : Nat) + b))
        have b9 := hI.out.2.2.setCell (p := ⟨g, m * 3 + 1, none⟩) hbg (.int .i64 ((a : Nat) + b))
        have y1 : (0 : Int) ≤ (m : Int) := by omega
        have y2 : (m : Int) < (toks.length : Int) := by omega
        unfold maxLen at hc1m hc2m
        have O9 := Lib.hid o9
        have M9 := Lib.hid m9
        have B9 := Lib.hid b9
        have HMC := Lib.hid hmc
        have HTC := Lib.hid htc
        clear hI hx hmv hgg hhh o9 m9 b9 hmc htc
        go_wp2_with fail
        obtain ⟨W9, hW9⟩ : ∃ W9, wr.setCell ⟨g, m * 3 + 1, none⟩ (.int .i64 ((a : Nat) + b)) = W9 := ⟨_, rfl⟩
        rw [hW9] at O9 M9 B9 ⊢
        clear hW9 e1 f9
        have z0 := own_cell O9.out _ _ HMC.out.1
        have z1 := own_cell O9.out _ _ HMC.out.2.1
        have z2 := own_cell O9.out _ _ HMC.out.2.2
        have u0 := own_cell M9.out _ _ HTC.out.1
        have u1 := own_cell M9.out _ _ HTC.out.2.1
        have u2 := own_cell M9.out _ _ HTC.out.2.2
        go_quiet (fail)
        clear z0 z1 z2 u0 u1 u2
        go_wp2
        go_roundw
        case rel => exact ⟨m + 1, by go_num, by omega, Lib.hid ⟨own_drewN O9.out nq, own_drewN M9.out nq, bel_drewN B9.out nq⟩⟩
        case measure => simp [intOf]; omega
      · have hB9 := hI.out.2.2
        have HB9 := Lib.hid hB9
        clear hI hB9
        go_wp2_with fail
        refine (awake7_any _ (HV.out.below HB9.out)).mono ?_
        rintro e w9 ⟨rfl, hb⟩
        have hz := HB9.out.trans (hb.mono HB9.out.size)
        clear hb
        go_wp2
        go_ret
        exact ⟨rfl, hz⟩
end Go.Proofs.YtnnnanemefcmdaaGreatDoor
namespace Go.Proofs.YtnnnanemefcmdaaGreatDoor
open Go.RowKit

theorem infoInt7 : (Tryz.prog.info? 3).map (fun i => (i.zero, i.size, i.bytes)) = some (some (.int .i64 0), 1, 8) := by kernel_rfl
def inV (k : Nat) : Value := .int .i64 (k : Nat)
theorem nsS_inv {sz : Nat} {a : Int} {opn : List Nat} {k p : Nat} {t : List UInt8} {st : Int × List Nat} (h : nsS sz (a, opn) (k, p, t) = some st) : a < p ∧ p < sz ∧
    (((k = 4 ∨ k = 6) ∧ st = ((p : Int), opn ++ [k + 1])) ∨ ((k = 5 ∨ k = 7) ∧ (∃ r, opn = r ++ [k] ∧ st = ((p : Int), r))) ∨ (k = 3 ∧ opn ≠ [] ∧ st = ((p : Int), opn)) ∨ ((k = 1 ∨ k = 13) ∧ opn = [] ∧ st = ((p : Int), opn)) ∨ ((k ≠ 1 ∧ k ≠ 3 ∧ k ≠ 4 ∧ k ≠ 5 ∧ k ≠ 6 ∧ k ≠ 7 ∧ k ≠ 13) ∧ st = ((p : Int), opn))) := by
  unfold nsS at h
  simp only at h
  by_cases h0 : (p : Int) ≤ a ∨ sz ≤ p
  · rw [if_pos h0] at h; cases h
  rw [if_neg h0] at h
  refine ⟨by omega, by omega, ?_⟩
  by_cases h1 : k = 4 ∨ k = 6
  · rw [if_pos h1] at h; exact .inl ⟨h1, (Option.some.inj h).symm⟩
  rw [if_neg h1] at h
  by_cases h2 : k = 5 ∨ k = 7
  · rw [if_pos h2] at h
    by_cases hl : opn.getLast? = some k
    · rw [if_pos hl] at h
      obtain ⟨hne, hg⟩ := List.getLast?_eq_some_iff.1 hl
      exact .inr (.inl ⟨h2, opn.dropLast, by rw [hg]; simp, (Option.some.inj h).symm⟩)
    · rw [if_neg hl] at h; cases h
  rw [if_neg h2] at h
  by_cases h3 : k = 3
  · rw [if_pos h3] at h
    by_cases he : opn = []
    · rw [if_pos he] at h; cases h
    · rw [if_neg he] at h; exact .inr (.inr (.inl ⟨h3, he, (Option.some.inj h).symm⟩))
  rw [if_neg h3] at h
  by_cases h4 : k = 1 ∨ k = 13
  · rw [if_pos h4] at h
    by_cases he : opn = []
    · rw [if_pos he] at h; exact .inr (.inr (.inr (.inl ⟨h4, he, (Option.some.inj h).symm⟩)))
    · rw [if_neg he] at h; cases h
  rw [if_neg h4] at h
  exact .inr (.inr (.inr (.inr ⟨by omega, (Option.some.inj h).symm⟩)))
theorem own_grown {w w1 w3 : World} {B B2 : Nat} {e e2 : TypeId} {s1 s2 n n2 : Nat} {l v : Value} {xs ys : List Value} (h : w.ownsRow B e s1 l n xs) (hb : Below w.heap.size w w1) (h2 : w.ownsRow B2 e2 s2 v n2 ys) (he : e ≠ e2) (hgr : w1.grownBy w3 v.ownBlock) : w3.ownsRow B e s1 l n xs := by
  refine ⟨h.1, ?_⟩
  rcases h.2 with hn | ⟨g, cap, cur, rfl, hg0, hg, rest⟩
  · exact .inl hn
  · have h1 := (hb.block g (hlt_of hg)).trans hg
    exact .inr ⟨g, cap, cur, rfl, hg0, (hgr.block g (hlt_of h1) (fun e9 => own_ne h2 hg he e9.symm)).trans h1, rest⟩
/-- What is known at a round's head. -/
structure NsA (s : ByteArray) (w : World) (toks : List Tk) (l : Value) (m : Nat) (a : Int) (opn : List Nat) (v : Value) (wr : World) : Prop where
  ns : ∃ la, nsF s.size (a, opn) (toks.drop m) = some (la, [])
  op : wr.ownsRow w.heap.size 3 1 v opn.length (opn.map inV)
  tk : wr.ownsRow w.heap.size 38 3 l toks.length (toks.flatMap (tkR 0))
  be : Below w.heap.size w wr
set_option maxRecDepth 100000 in
set_option maxHeartbeats 8000000 in
theorem tokenNests_walk (s : ByteArray) (hs : s.size ≤ maxLen) (w : World) (hv : EnvT w) :
    Calls Tryz.prog 4 #[.string s] w fun e w' => e = .returned (.bool true) ∧ Below w.heap.size w w' := by
  unfold maxLen at hs
  by_cases h : 3000 < s.size
  · have hA := awake7_any w hv
    go_enter Tryz.func4, Tryz.ntmps4
    go_wp2_with fail
    refine hA.mono ?_
    rintro e w1 ⟨rfl, hb1⟩
    go_wp2
    go_ret
    exact ⟨rfl, hb1⟩
  have hs2 : s.size ≤ 3000 := by omega
  have hat := rwT_at s
  have hns := rwT_nests s
  have hR := prRow_any s 0 w (by omega) (by omega) (by omega) hv.er
  obtain ⟨r, hr⟩ : ∃ r, rwT s = r := ⟨_, rfl⟩
  rw [hr] at hR hat hns
  obtain ⟨toks, c, p⟩ := r
  obtain ⟨x, hx⟩ : ∃ x, atI 0 (toks, c, p) = x := ⟨_, rfl⟩
  have hp1 : p ≤ s.size := hat.2.1
  have hxb : 0 ≤ x ∧ x ≤ s.size := by rw [← hx]; unfold atI; split <;> (first | omega | (simp only; omega))
  have HX := Lib.hid hx
  have HV := Lib.hid hv
  have HNS := Lib.hid (show c = 0 → ∃ la, nsF s.size (-1, []) toks = some (la, []) from hns)
  clear h hs hr hx hv hat hns
  obtain ⟨hx1, hx2⟩ := hxb
  by_cases hc : c = 0
  · have qc : ((c : Int) != 0) = false := by simp only [bne_eq_false_iff_eq]; omega
    have HN0 := Lib.hid (HNS.out hc)
    clear hc HNS
    go_enter Tryz.func4, Tryz.ntmps4
    go_wp2_with fail
    refine hR.mono ?_
    rintro e w1 ⟨v1, he, hown1, hb1⟩
    rw [HX.out] at he
    simp only at he hown1
    subst he
    obtain ⟨r1, c1, rfl⟩ : ∃ r1 c1, v1 = .slice r1 toks.length c1 := by
      rcases hown1.2 with ⟨rfl, hn⟩ | ⟨g, cap, cur, rfl, _⟩
      · exact ⟨none, 0, by rw [hn]⟩
      · exact ⟨_, _, rfl⟩
    have hB1 := hb1.alloc hb1.size (.cells #[.int .i64 (c : Nat), .int .i64 x] 27)
    have HO1 := Lib.hid (hown1.alloc (.cells #[.int .i64 (c : Nat), .int .i64 x] 27))
    clear hR hown1 hb1
    go_wp2_with fail
    refine (bad_any _ _ _).mono ?_
    rintro e w2 ⟨rfl, hb⟩
    have HA0 := Lib.hid (show NsA s w toks (.slice r1 toks.length c1) 0 (-1) [] (.slice none 0 0) w2 from ⟨HN0.out, World.ownsRow_nil _ _ _ _, own_below HO1.out hb, hB1.trans (hb.mono hB1.size)⟩)
    clear hb hB1 HO1 HN0
    obtain ⟨i0, hi, hz0, hz1, hz2⟩ := info_parts infoInt7
    have hmx : (1000000 : Nat) ≤ maxLen := by decide
    go_wp2
    go_loopw [5, 6, 35] (fun la ov j wr => ∃ (m : Nat) (a : Int) (opn : List Nat) (v : Value), j = .int .i64 m ∧ la = .int .i64 a ∧ v = ov ∧ m ≤ toks.length ∧ -1 ≤ a ∧ a ≤ 3000 ∧ opn.length ≤ 3001 ∧ ((opn.length : Int) ≤ a + 1) ∧ Hid (NsA s w toks (.slice r1 toks.length c1) m a opn v wr)) (fun _ _ j _ => toks.length - (intOf j).toNat)
    case atStart => exact ⟨0, -1, [], .slice none 0 0, rfl, rfl, rfl, by omega, by omega, by omega, by simp, by simp, HA0⟩
    case round =>
      obtain ⟨m, a, opn, v, rfl, rfl, rfl, hm, ha1, ha2, hol, hoa, hI⟩ := hrel
      obtain ⟨r2, c2, rfl⟩ : ∃ r2 c2, v = .slice r2 opn.length c2 := by
        rcases hI.out.op.2 with ⟨rfl, hn⟩ | ⟨g, cap, cur, rfl, _⟩
        · exact ⟨none, 0, by rw [hn]⟩
        · exact ⟨_, _, rfl⟩
      have hsz := hI.out.be.size
      by_cases hlt : m < toks.length
      · obtain ⟨⟨k, b, t⟩, hxx⟩ : ∃ x, toks[m]? = some x := ⟨_, List.getElem?_eq_getElem hlt⟩
        obtain ⟨hl0, he0⟩ := List.getElem?_eq_some_iff.1 hxx
        obtain ⟨st, hst, hrest⟩ : ∃ st, nsS s.size (a, opn) (k, b, t) = some st ∧ ∃ la, nsF s.size st (toks.drop (m + 1)) = some (la, []) := by
          obtain ⟨la, hla⟩ := hI.out.ns
          rw [List.drop_eq_getElem_cons hl0, he0] at hla
          rw [show nsF s.size (a, opn) ((k, b, t) :: toks.drop (m + 1)) = (nsS s.size (a, opn) (k, b, t)).bind (fun st' => nsF s.size st' (toks.drop (m + 1))) from rfl] at hla
          obtain ⟨st, h1, h2⟩ := Option.bind_eq_some_iff.1 hla
          exact ⟨st, h1, la, h2⟩
        obtain ⟨hb1, hb2, hcs⟩ := nsS_inv hst
        have hca : toks.length ≤ c1 ∧ c1 ≤ maxLen ∧ ∃ g, r1 = some ⟨g, 0, none⟩ := by
          rcases hI.out.tk.2 with ⟨hv, hn⟩ | ⟨g, cap', cur, hv, _, _, h1, h2, _⟩
          · omega
          · cases hv; exact ⟨h1, h2, g, rfl⟩
        obtain ⟨hc1, hc1m, g, rfl⟩ := hca
        have htc := tkR_cells 0 toks m k b t hxx
        have e0 : wr.cell? ⟨g, m * 3, none⟩ = some (.int .i64 (k : Nat)) := own_cell hI.out.tk _ _ htc.1
        have e1 : wr.cell? ⟨g, m * 3 + 1, none⟩ = some (.int .i64 (b : Nat)) := by have := own_cell hI.out.tk _ _ htc.2.1; rwa [Int.add_zero] at this
        have e2 : wr.cell? ⟨g, m * 3 + 2, none⟩ = some (.string ⟨t.toArray⟩) := own_cell hI.out.tk _ _ htc.2.2
        have y1 : (0 : Int) ≤ (m : Int) := by omega
        have y2 : (m : Int) < (toks.length : Int) := by omega
        have qa : decide ((b : Int) ≤ a) = false := decide_eq_false (by omega)
        have qb : decide (s.size ≤ b) = false := decide_eq_false (by omega)
        have qb' : decide ((s.size : Int) ≤ (b : Int)) = false := decide_eq_false (by omega)
        have HT := Lib.hid hI.out.tk
        have HO := Lib.hid hI.out.op
        have HB := Lib.hid hI.out.be
        have HRE := Lib.hid hrest
        unfold maxLen at hc1m
        clear hI htc hxx he0 hst hrest
        rcases hcs with ⟨hk, hst⟩ | ⟨hk, r, hop, hst⟩ | ⟨hk, hop, hst⟩ | ⟨hk, hop, hst⟩ | ⟨hk, hst⟩
        · subst hst
          rcases hk with rfl | rfl
          · have hown := HO.out
            go_wp2_with (at_builtin; refine wpList_append_own _ rfl _ _ 36 rfl w.heap.size 3 i0 (.int .i64 0) 1 8 Tryz.underlying36 hi hz0 hz1 hz2 rfl (by decide) _ _ _ rfl ((hown.alloc _).alloc _) ⟨wr.heap.size + 1, 0, none⟩ 1 1 [.int .i64 5] rfl rfl (fun j u hj => cells_new1 wr _ _ _ j u hj) (fun u hu => by simp at hu; subst hu; rfl) (by unfold maxLen at *; omega) (by omega) (by simp; omega) ?_)
            intro v' w3 hown3 hgrow _
            have hbe : Below w.heap.size w w3 := below_of_grown ((HB.out.alloc hsz _).alloc (by simp; omega) _) hgrow (by simp; omega) ((hown.alloc _).alloc _)
            have htk3 := own_grown HT.out (((Below.refl wr.heap.size wr).alloc (Nat.le_refl _) _).alloc (by simp) _) hown (by decide) hgrow
            have HN := Lib.hid (show NsA s w toks (.slice (some ⟨g, 0, none⟩) toks.length c1) (m + 1) (b : Nat) (opn ++ [4 + 1]) v' w3 from ⟨HRE.out, by simpa [inV] using hown3, htk3, hbe⟩)
            clear hown hgrow hown3 hbe htk3 e0 e1 e2
            go_wp2
            go_roundw
            case rel => exact ⟨m + 1, (b : Nat), opn ++ [4 + 1], v', by go_num, rfl, rfl, by omega, by omega, by omega, by simp; omega, by simp; omega, HN⟩
            case measure => simp [intOf]; omega
          · have hown := HO.out
            go_wp2_with (at_builtin; refine wpList_append_own _ rfl _ _ 36 rfl w.heap.size 3 i0 (.int .i64 0) 1 8 Tryz.underlying36 hi hz0 hz1 hz2 rfl (by decide) _ _ _ rfl ((hown.alloc _).alloc _) ⟨wr.heap.size + 1, 0, none⟩ 1 1 [.int .i64 7] rfl rfl (fun j u hj => cells_new1 wr _ _ _ j u hj) (fun u hu => by simp at hu; subst hu; rfl) (by unfold maxLen at *; omega) (by omega) (by simp; omega) ?_)
            intro v' w3 hown3 hgrow _
            have hbe : Below w.heap.size w w3 := below_of_grown ((HB.out.alloc hsz _).alloc (by simp; omega) _) hgrow (by simp; omega) ((hown.alloc _).alloc _)
            have htk3 := own_grown HT.out (((Below.refl wr.heap.size wr).alloc (Nat.le_refl _) _).alloc (by simp) _) hown (by decide) hgrow
            have HN := Lib.hid (show NsA s w toks (.slice (some ⟨g, 0, none⟩) toks.length c1) (m + 1) (b : Nat) (opn ++ [6 + 1]) v' w3 from ⟨HRE.out, by simpa [inV] using hown3, htk3, hbe⟩)
            clear hown hgrow hown3 hbe htk3 e0 e1 e2
            go_wp2
            go_roundw
            case rel => exact ⟨m + 1, (b : Nat), opn ++ [6 + 1], v', by go_num, rfl, rfl, by omega, by omega, by omega, by simp; omega, by simp; omega, HN⟩
            case measure => simp [intOf]; omega
        · subst hst hop
          obtain ⟨n, hn⟩ : ∃ n, r.length = n := ⟨_, rfl⟩
          have hl1 : (r ++ [k]).length = n + 1 := by simp [hn]
          have hown := HO.out
          simp only [hl1] at hown hol hoa ⊢
          obtain ⟨g2, rfl⟩ : ∃ g2, r2 = some ⟨g2, 0, none⟩ := by
            rcases hown.2 with ⟨hv, hn⟩ | ⟨g2, cap', cur, hv, _⟩
            · omega
            · cases hv; exact ⟨g2, rfl⟩
          have hc2 : n + 1 ≤ c2 ∧ c2 ≤ maxLen := by
            rcases hown.2 with ⟨hv, hn⟩ | ⟨g2, cap', cur, hv, _, _, h1, h2, _⟩
            · omega
            · cases hv; exact ⟨h1, h2⟩
          obtain ⟨hc2a, hc2b⟩ := hc2
          unfold maxLen at hc2b
          have c9 : wr.cell? ⟨g2, n, none⟩ = some (.int .i64 (k : Nat)) := own_cell hown n _ (by rw [List.map_append, List.getElem?_append_right (by simp [hn])]; simp [hn, inV])
          have hcut := own_cut (m := n) hown (by omega)
          rw [show (List.map inV (r ++ [k])).take n = r.map inV by rw [List.map_append, List.take_left' (by simp [hn])]] at hcut
          obtain ⟨cur2, hg2, _, _⟩ := own_gg hown
          have hg2l := hlt_of hg2
          have HC := Lib.hid hcut
          have HHN := Lib.hid hn
          have z0 : ((n : Int) + 1 == 0) = false := by simp only [beq_eq_false_iff_ne, ne_eq]; omega
          have z1 : (0 : Int) ≤ (n : Int) := by omega
          have z2 : (n : Int) < (n : Int) + 1 := by omega
          clear hown hcut hg2 hl1 hn
          rcases hk with rfl | rfl
          · go_wp2
            go_quiet (fail)
            have HN := Lib.hid (show NsA s w toks (.slice (some ⟨g, 0, none⟩) toks.length c1) (m + 1) (b : Nat) r (.slice (some ⟨g2, 0, none⟩) n c2) ((wr.alloc (.cells #[.int .i64 5, .int .i64 (b : Nat), .string ⟨t.toArray⟩] 38)).drewN nq) from ⟨HRE.out, by rw [HHN.out]; exact own_drewN (HC.out.alloc _) nq, own_drewN (HT.out.alloc _) nq, bel_drewN (HB.out.alloc hsz _) nq⟩)
            clear e0 e1 e2 c9
            go_wp2
            go_roundw
            case rel => exact ⟨m + 1, (b : Nat), r, _, by go_num, rfl, rfl, by omega, by omega, by omega, by rw [HHN.out]; omega, by rw [HHN.out]; omega, HN⟩
            case measure => simp [intOf]; omega
          · go_wp2
            go_quiet (fail)
            have HN := Lib.hid (show NsA s w toks (.slice (some ⟨g, 0, none⟩) toks.length c1) (m + 1) (b : Nat) r (.slice (some ⟨g2, 0, none⟩) n c2) ((wr.alloc (.cells #[.int .i64 7, .int .i64 (b : Nat), .string ⟨t.toArray⟩] 38)).drewN nq) from ⟨HRE.out, by rw [HHN.out]; exact own_drewN (HC.out.alloc _) nq, own_drewN (HT.out.alloc _) nq, bel_drewN (HB.out.alloc hsz _) nq⟩)
            clear e0 e1 e2 c9
            go_wp2
            go_roundw
            case rel => exact ⟨m + 1, (b : Nat), r, _, by go_num, rfl, rfl, by omega, by omega, by omega, by rw [HHN.out]; omega, by rw [HHN.out]; omega, HN⟩
            case measure => simp [intOf]; omega
        · subst hst hk
          have hz : 0 < opn.length := List.length_pos_iff.2 hop
          have z0 : ((opn.length : Int) == 0) = false := by simp only [beq_eq_false_iff_ne, ne_eq]; omega
          clear hop
          have HN := Lib.hid (show NsA s w toks (.slice (some ⟨g, 0, none⟩) toks.length c1) (m + 1) (b : Nat) opn (.slice r2 (opn : List Nat).length c2) (wr.alloc (.cells #[.int .i64 3, .int .i64 (b : Nat), .string ⟨t.toArray⟩] 38)) from ⟨HRE.out, HO.out.alloc _, HT.out.alloc _, HB.out.alloc hsz _⟩)
          go_wp2
          go_roundw
          case rel => exact ⟨m + 1, (b : Nat), opn, _, by go_num, rfl, rfl, by omega, by omega, by omega, by omega, by omega, HN⟩
          case measure => simp [intOf]; omega
        · subst hst hop
          rcases hk with rfl | rfl
          · have hq : (([] : List Nat).length : Int) ≤ 0 := by simp
            have HN := Lib.hid (show NsA s w toks (.slice (some ⟨g, 0, none⟩) toks.length c1) (m + 1) (b : Nat) [] (.slice r2 0 c2) (wr.alloc (.cells #[.int .i64 1, .int .i64 (b : Nat), .string ⟨t.toArray⟩] 38)) from ⟨HRE.out, HO.out.alloc _, HT.out.alloc _, HB.out.alloc hsz _⟩)
            go_wp2
            go_roundw
            case rel => exact ⟨m + 1, (b : Nat), [], _, by go_num, rfl, rfl, by omega, by omega, by omega, by simp, by simp; omega, HN⟩
            case measure => simp [intOf]; omega
          · have hq : (([] : List Nat).length : Int) ≤ 0 := by simp
            have HN := Lib.hid (show NsA s w toks (.slice (some ⟨g, 0, none⟩) toks.length c1) (m + 1) (b : Nat) [] (.slice r2 0 c2) (wr.alloc (.cells #[.int .i64 13, .int .i64 (b : Nat), .string ⟨t.toArray⟩] 38)) from ⟨HRE.out, HO.out.alloc _, HT.out.alloc _, HB.out.alloc hsz _⟩)
            go_wp2
            go_roundw
            case rel => exact ⟨m + 1, (b : Nat), [], _, by go_num, rfl, rfl, by omega, by omega, by omega, by simp, by simp; omega, HN⟩
            case measure => simp [intOf]; omega
        · subst hst
          obtain ⟨k1, k3, k4, k5, k6, k7, k13⟩ := hk
          have q1 : ((k : Int) == 1) = false := by simp only [beq_eq_false_iff_ne, ne_eq]; omega
          have q3 : ((k : Int) == 3) = false := by simp only [beq_eq_false_iff_ne, ne_eq]; omega
          have q4 : ((k : Int) == 4) = false := by simp only [beq_eq_false_iff_ne, ne_eq]; omega
          have q5 : ((k : Int) == 5) = false := by simp only [beq_eq_false_iff_ne, ne_eq]; omega
          have q6 : ((k : Int) == 6) = false := by simp only [beq_eq_false_iff_ne, ne_eq]; omega
          have q7 : ((k : Int) == 7) = false := by simp only [beq_eq_false_iff_ne, ne_eq]; omega
          have q13 : ((k : Int) == 13) = false := by simp only [beq_eq_false_iff_ne, ne_eq]; omega
          clear k1 k3 k4 k5 k6 k7 k13
          have HN := Lib.hid (show NsA s w toks (.slice (some ⟨g, 0, none⟩) toks.length c1) (m + 1) (b : Nat) opn (.slice r2 (opn : List Nat).length c2) (wr.alloc (.cells #[.int .i64 (k : Nat), .int .i64 (b : Nat), .string ⟨t.toArray⟩] 38)) from ⟨HRE.out, HO.out.alloc _, HT.out.alloc _, HB.out.alloc hsz _⟩)
          go_wp2
          go_roundw
          case rel => exact ⟨m + 1, (b : Nat), opn, _, by go_num, rfl, rfl, by omega, by omega, by omega, by omega, by omega, HN⟩
          case measure => simp [intOf]; omega
      · have hme : m = toks.length := by omega
        have hop : opn = [] := by
          obtain ⟨la, hla⟩ := hI.out.ns
          rw [hme, List.drop_length] at hla
          exact congrArg Prod.snd (Option.some.inj hla)
        subst hop
        have HB := Lib.hid hI.out.be
        clear hI hme
        go_wp2_with fail
        refine (awake7_any _ (HV.out.below HB.out)).mono ?_
        rintro e w9 ⟨rfl, hb⟩
        have hz := HB.out.trans (hb.mono HB.out.size)
        clear hb
        go_wp2
        go_ret
        exact ⟨rfl, hz⟩
  · have qc : ((c : Int) != 0) = true := by simp only [bne_iff_ne, ne_eq]; omega
    have d1 : decide (0 ≤ x) = true := decide_eq_true hx1
    have d2 : decide (x ≤ (s.size : Int)) = true := decide_eq_true hx2
    clear hc HNS
    go_enter Tryz.func4, Tryz.ntmps4
    go_wp2_with fail
    refine hR.mono ?_
    rintro e w1 ⟨v1, he, hown1, hb1⟩
    rw [HX.out] at he
    simp only at he hown1
    subst he
    obtain ⟨r1, c1, rfl⟩ : ∃ r1 c1, v1 = .slice r1 toks.length c1 := by
      rcases hown1.2 with ⟨rfl, hn⟩ | ⟨g, cap, cur, rfl, _⟩
      · exact ⟨none, 0, by rw [hn]⟩
      · exact ⟨_, _, rfl⟩
    have hB1 := hb1.alloc hb1.size (.cells #[.int .i64 (c : Nat), .int .i64 x] 27)
    have hF1 := heap_alloc_new w1 (.cells #[.int .i64 (c : Nat), .int .i64 x] 27)
    clear hR hown1 hb1
    go_wp2_with fail
    refine (bad_any _ _ _).mono ?_
    rintro e w2 ⟨rfl, hb⟩
    have hF2 := (hb.block w1.heap.size (by simp)).trans hF1
    have hB2 := hB1.trans (hb.mono hB1.size)
    have hlF := hlt_of hF2
    clear hb hB1 hF1
    generalize w1.heap.size = F at *
    have HF2 := Lib.hid hF2
    clear hF2
    go_wp2_with fail
    refine (awake7_any _ (HV.out.below hB2)).mono ?_
    rintro e w3 ⟨rfl, hb⟩
    have hF3 := (hb.block F hlF).trans HF2.out
    have hB3 := hB2.trans (hb.mono hB2.size)
    have f0 := cell_hp hF3 0 _ rfl
    have f1 := cell_hp hF3 1 _ rfl
    clear hb hF3 hB2
    go_wp2
    go_ret
    exact ⟨rfl, hB3⟩
end Go.Proofs.YtnnnanemefcmdaaGreatDoor
