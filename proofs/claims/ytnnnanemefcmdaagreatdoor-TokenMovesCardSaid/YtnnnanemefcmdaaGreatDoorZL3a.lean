/- The walk of the program's Row (layer 7). -/
import Derived.Test.YtnnnanemefcmdaaGreatDoorZPrR
import Derived.Test.YtnnnanemefcmdaaGreatDoorZL0e
import Derived.Test.YtnnnanemefcmdaaGreatDoorZL0f
namespace Go.Proofs.YtnnnanemefcmdaaGreatDoor
open Go.RowKit

/-- What the program's Row comes to. -/
def PRR (base : Int) (r : List Tk × Nat × Nat) (w : World) (e : Ending) (w' : World) : Prop :=
  ∃ v, e = .returned (.tuple #[v, .agg #[.int .i64 (r.2.1 : Nat), .int .i64 (atI base r)]]) ∧ w'.ownsRow w.heap.size 38 3 v r.1.length (r.1.flatMap (tkR base)) ∧ Below w.heap.size w w'
theorem prr_bad {base : Int} {r : List Tk × Nat × Nat} {w w' : World} {c p : Nat} {x : Int} (h : r = ([], c, p)) (hc : c ≠ 0) (hx : x = base + (p : Nat)) (hb : Below w.heap.size w w') :
    PRR base r w (.returned (.tuple #[.slice none 0 0, .agg #[.int .i64 (c : Nat), .int .i64 x]])) w' := by
  subst h hx
  exact ⟨.slice none 0 0, by unfold atI; rw [if_neg hc], World.ownsRow_nil _ _ _ _, hb⟩
theorem prr_ok {base : Int} {r : List Tk × Nat × Nat} {w w' : World} {out : List Tk} {v : Value} (h : r = (out, 0, 0)) (ho : w'.ownsRow w.heap.size 38 3 v out.length (out.flatMap (tkR base))) (hb : Below w.heap.size w w') :
    PRR base r w (.returned (.tuple #[v, .agg #[.int .i64 0, .int .i64 0]])) w' := by
  subst h
  exact ⟨v, rfl, ho, hb⟩
/-- A row is tokens, or one fault. -/
theorem rwF_shape (s : ByteArray) (f : Nat) : ∀ i op last out, ((rwF s f i op last out).2.1 = 0 → (rwF s f i op last out).2.2 = 0) ∧ ((rwF s f i op last out).2.1 ≠ 0 → (rwF s f i op last out).1 = []) := by
  induction f with
  | zero => intro i op last out; exact ⟨fun _ => rfl, fun h => absurd rfl h⟩
  | succ f ih =>
    intro i op last out
    rw [rwF]
    split
    · split
      · exact ih _ _ _ _
      · split
        · rename_i h; exact ⟨fun e => absurd e h, fun _ => rfl⟩
        · split
          · exact ⟨(fun e => by cases e), fun _ => rfl⟩
          · exact ih _ _ _ _
    · split
      · exact ⟨(fun e => by cases e), fun _ => rfl⟩
      · exact ⟨fun _ => rfl, fun h => absurd rfl h⟩
/-- Tokens begin in the row; what is wrong is there, or at its end; the numbers of what is wrong. -/
theorem rwF_at (s : ByteArray) (f : Nat) : ∀ i op last out, (∀ x ∈ out, x.2.1 < s.size) → (∀ x ∈ (rwF s f i op last out).1, x.2.1 < s.size) ∧ (rwF s f i op last out).2.2 ≤ s.size ∧ (rwF s f i op last out).2.1 ≤ 6 := by
  induction f with
  | zero => intro i op last out h; exact ⟨h, Nat.zero_le _, Nat.zero_le _⟩
  | succ f ih =>
    intro i op last out h
    rw [rwF]
    split
    · rename_i hi
      split
      · exact ih _ _ _ _ h
      · split
        · exact ⟨(fun x hx => by cases hx), rdO_err hi.1⟩
        · rename_i hc
          have hc0 : (rdO s i op last).c = 0 := Decidable.byContradiction hc
          have hT := rdO_tok hi.1 hc0
          split
          · exact ⟨(fun x hx => by cases hx), hT.le, (by show (3 : Nat) ≤ 6; omega)⟩
          · refine ih _ _ _ _ (fun x hx => ?_)
            rcases List.mem_append.1 hx with hx | hx
            · exact h x hx
            · rw [List.mem_singleton.1 hx]
              show (rdO s i op last).a < s.size
              rw [hT.at_]; exact hi.1
    · split
      · exact ⟨(fun x hx => by cases hx), Nat.le_refl _, (by show (3 : Nat) ≤ 6; omega)⟩
      · exact ⟨h, Nat.zero_le _, Nat.zero_le _⟩
theorem rwT_shape (s : ByteArray) : (rwT s = ((rwT s).1, 0, 0)) ∨ ((rwT s).2.1 ≠ 0 ∧ rwT s = ([], (rwT s).2.1, (rwT s).2.2)) := by
  have h : ((rwT s).2.1 = 0 → (rwT s).2.2 = 0) ∧ ((rwT s).2.1 ≠ 0 → (rwT s).1 = []) := rwF_shape s (s.size + 1) 0 [] 0 []
  by_cases hb : (rwT s).2.1 = 0
  · exact .inl (Prod.ext rfl (Prod.ext hb (h.1 hb)))
  · exact .inr ⟨hb, Prod.ext (h.2 hb) rfl⟩
theorem rwT_at (s : ByteArray) : (∀ x ∈ (rwT s).1, x.2.1 < s.size) ∧ (rwT s).2.2 ≤ s.size ∧ (rwT s).2.1 ≤ 6 := rwF_at s (s.size + 1) 0 [] 0 [] (fun x hx => by cases hx)
theorem own_set {w : World} {base g cap n : Nat} {e : TypeId} {size : Nat} {xs : List Value} (h : w.ownsRow base e size (.slice (some ⟨g, 0, none⟩) n cap) n xs) (j : Nat) (v : Value) : (w.setCell ⟨g, j, none⟩ v).ownsRow base e size (.slice (some ⟨g, 0, none⟩) n cap) n (xs.set j v) := by
  refine ⟨by rw [List.length_set]; exact h.1, ?_⟩
  rcases h.2 with ⟨h0, _⟩ | ⟨g', cap', cur, hv, hbg, hg, hnc, hcm, hcs, htake⟩
  · cases h0
  · cases hv
    refine .inr ⟨g, cap, _, rfl, hbg, heap_setCell_same w g j cur e v hg, hnc, hcm, ?_, ?_⟩
    · simp [hcs]
    · rw [← htake]
      simp [List.take_set]
theorem flat3R (base : Int) (l : List Tk) : (l.flatMap (tkR base)).length = l.length * 3 := by
  induction l with
  | nil => rfl
  | cons x l ih => rw [List.flatMap_cons, List.length_append, ih, List.length_cons]; simp [tkR]; omega
/-- The cells when m places are moved. -/
def mvC (base : Int) (toks : List Tk) (m : Nat) : List Value := (toks.take m).flatMap (tkR base) ++ (toks.drop m).flatMap tk0
theorem mvC_get (base : Int) (toks : List Tk) (m : Nat) (k a : Nat) (t : List UInt8) (h : toks[m]? = some (k, a, t)) : (mvC base toks m)[m * 3 + 1]? = some (.int .i64 (a : Nat)) ∧ (mvC base toks m).set (m * 3 + 1) (.int .i64 ((a : Nat) + base)) = mvC base toks (m + 1) := by
  obtain ⟨hl, he⟩ := List.getElem?_eq_some_iff.1 h
  have hd : toks.drop m = (k, a, t) :: toks.drop (m + 1) := by rw [List.drop_eq_getElem_cons hl, he]
  have ht : toks.take (m + 1) = toks.take m ++ [(k, a, t)] := by rw [List.take_succ_eq_append_getElem hl, he]
  have hlen : ((toks.take m).flatMap (tkR base)).length = m * 3 := by rw [flat3R, List.length_take]; omega
  constructor
  · unfold mvC
    rw [List.getElem?_append_right (by omega), hlen, hd, show m * 3 + 1 - m * 3 = 1 by omega]
    rfl
  · unfold mvC
    rw [List.set_append_right _ _ (by omega), hlen, hd, ht, show m * 3 + 1 - m * 3 = 1 by omega, List.flatMap_append, List.append_assoc]
    rfl
theorem err_below0 {w w' : World} (h : ErrCell w) (hb : Below w.heap.size w w') : ErrCell w' := err_below h hb
set_option maxRecDepth 100000 in
set_option maxHeartbeats 8000000 in
theorem prRow_any (s : ByteArray) (base : Int) (w : World) (hs : s.size ≤ 3000) (hb1 : -2199023255552 ≤ base) (hb2 : base ≤ 2199023255552) (hE : ErrCell w) :
    Calls Tryz.prog 8 #[.string s, .int .i64 base] w (PRR base (rwT s) w) := by
  have hat := rwT_at s
  have hR := fun (hb : Below w.heap.size w (w.alloc (.cells #[.int .i64 0, .int .i64 0] 27))) => prRead_any s (w.alloc (.cells #[.int .i64 0, .int .i64 0] 27)) hs (err_below hE hb)
  have hR := hR ((Below.refl _ w).alloc (Nat.le_refl _) _)
  rcases rwT_shape s with hsh | ⟨hc, hsh⟩
  · obtain ⟨toks, htk⟩ : ∃ toks, (rwT s).1 = toks := ⟨_, rfl⟩
    rw [htk] at hsh hat
    have hpl := hat.1
    rw [hsh] at hR
    have HSH := Lib.hid hsh
    have HPL := Lib.hid hpl
    clear hsh hat hpl htk hE
    go_enter Tryz.func8, Tryz.ntmps8
    go_wp2_with fail
    refine hR.mono ?_
    rintro e w1 ⟨v, rfl, hown, hb⟩
    obtain ⟨hbW, hxR⟩ := res1 hb (by simp)
    have hownW : w1.ownsRow w.heap.size 38 3 v toks.length (toks.flatMap tk0) := by
      refine ⟨hown.1, ?_⟩
      rcases hown.2 with hn | ⟨g, cap, cur, rfl, hg, rest⟩
      · exact .inl hn
      · exact .inr ⟨g, cap, cur, rfl, by simp at hg; omega, rest⟩
    obtain ⟨rr, cap, rfl⟩ : ∃ rr cap, v = .slice rr toks.length cap := by
      rcases hownW.2 with ⟨rfl, hn⟩ | ⟨g, cap, cur, rfl, _⟩
      · exact ⟨none, 0, by rw [hn]⟩
      · exact ⟨_, _, rfl⟩
    have hlR := hlt_of hxR
    have HOW := Lib.hid hownW
    have HXR := Lib.hid hxR
    have hsz1 := hbW.size
    clear hR hown hb hownW hxR
    go_wp2_with fail
    refine (bad_any _ _ _).mono ?_
    rintro e w2 ⟨rfl, hb⟩
    obtain ⟨hbA, hxF⟩ := res1 hb (by simp)
    have hbB := hbW.trans (hbA.mono hbW.size)
    have hownB := own_below HOW.out hbA
    have hxR2 : w2.heap[w.heap.size]? = some (.cells #[.int .i64 0, .int .i64 0] 27) := (hbA.block _ hlR).trans HXR.out
    have hz : ((0 : Int) != 0) = false := rfl
    have HB := Lib.hid hbB
    have HO := Lib.hid (show w2.ownsRow w.heap.size 38 3 (.slice rr toks.length cap) toks.length (mvC base toks 0) by unfold mvC; simpa using hownB)
    have HF := Lib.hid hxF
    have HR := Lib.hid hxR2
    have hFge : w.heap.size ≤ w1.heap.size := hbW.size
    clear hb hbA hxF hbB hownB hxR2 HOW HXR hbW
    generalize w1.heap.size = F at *
    go_wp2
    go_loopw [25] (fun j wr => ∃ m : Nat, j = .int .i64 m ∧ m ≤ toks.length ∧ Hid (wr.ownsRow w.heap.size 38 3 (.slice rr toks.length cap) toks.length (mvC base toks m) ∧ wr.heap[F]? = some (.cells #[.int .i64 0, .int .i64 0] 27) ∧ wr.heap[w.heap.size]? = some (.cells #[.int .i64 0, .int .i64 0] 27) ∧ Below w.heap.size w wr)) (fun j _ => toks.length - (intOf j).toNat)
    case atStart => exact ⟨0, rfl, by omega, Lib.hid ⟨HO.out, HF.out, HR.out, HB.out⟩⟩
    case round =>
      obtain ⟨m, rfl, hm, hI⟩ := hrel
      by_cases hlt : m < toks.length
      · obtain ⟨⟨k, a, t⟩, hx⟩ : ∃ x, toks[m]? = some x := ⟨_, List.getElem?_eq_getElem hlt⟩
        have hcap : toks.length ≤ cap ∧ cap ≤ maxLen := by
          rcases hI.out.1.2 with ⟨hv, hn⟩ | ⟨g, cap', cur, hv, _, _, h1, h2, _⟩
          · omega
          · cases hv; exact ⟨h1, h2⟩
        obtain ⟨g, rfl⟩ : ∃ g, rr = some ⟨g, 0, none⟩ := by
          rcases hI.out.1.2 with ⟨hv, hn⟩ | ⟨g, cap', cur, hv, _⟩
          · omega
          · cases hv; exact ⟨g, rfl⟩
        have hmv := mvC_get base toks m k a t hx
        have hap : a < s.size := HPL.out _ (List.mem_of_getElem? hx)
        have hc1 : wr.cell? ⟨g, m * 3 + 1, none⟩ = some (.int .i64 (a : Nat)) := by
          have := World.ownsRow.cells hI.out.1 (g := g) rfl (m * 3 + 1) _ hmv.1
          rwa [show (⟨g, 0, none⟩ : Addr).add (m * 3 + 1) = ⟨g, m * 3 + 1, none⟩ by simp [Addr.add, eq_comm]] at this
        obtain ⟨cur, hgg, hbg, hcm⟩ := own_gg hI.out.1
        have hf1 : wr.frozen? ⟨g, m * 3 + 1, none⟩ = false := free_hp hgg _
        have hgF : F ≠ g := blk_ne hI.out.2.1 hgg (by decide)
        have hgR : w.heap.size ≠ g := blk_ne hI.out.2.2.1 hgg (by decide)
        have HN := Lib.hid (show (wr.setCell ⟨g, m * 3 + 1, none⟩ (.int .i64 ((a : Nat) + base))).ownsRow w.heap.size 38 3 (.slice (some ⟨g, 0, none⟩) toks.length cap) toks.length (mvC base toks (m + 1)) ∧ (wr.setCell ⟨g, m * 3 + 1, none⟩ (.int .i64 ((a : Nat) + base))).heap[F]? = some (.cells #[.int .i64 0, .int .i64 0] 27) ∧ (wr.setCell ⟨g, m * 3 + 1, none⟩ (.int .i64 ((a : Nat) + base))).heap[w.heap.size]? = some (.cells #[.int .i64 0, .int .i64 0] 27) ∧ Below w.heap.size w (wr.setCell ⟨g, m * 3 + 1, none⟩ (.int .i64 ((a : Nat) + base))) from by
          refine ⟨?_, ?_, ?_, hI.out.2.2.2.setCell (p := ⟨g, m * 3 + 1, none⟩) hbg _⟩
          · rw [← hmv.2]; exact own_set hI.out.1 _ _
          · rw [Below.heap_setCell _ _ _ _ hgF]; exact hI.out.2.1
          · rw [Below.heap_setCell _ _ _ _ hgR]; exact hI.out.2.2.1)
        have y1 : (0 : Int) ≤ (m : Int) := by omega
        have y2 : (m : Int) < (toks.length : Int) := by omega
        obtain ⟨hca, hcb⟩ := hcap
        unfold maxLen at hcb
        clear hI hx hmv hgg hcm
        go_wp2
        go_roundw
        case rel => exact ⟨m + 1, by go_num, by omega, HN⟩
        case measure => simp [intOf]; omega
      · have hme : m = toks.length := by omega
        have HO2 := Lib.hid (show wr.ownsRow w.heap.size 38 3 (.slice rr toks.length cap) toks.length (toks.flatMap (tkR base)) by
          have := hI.out.1
          unfold mvC at this
          rw [hme] at this
          simpa using this)
        have f0 := cell_hp hI.out.2.1 0 _ rfl
        have f1 := cell_hp hI.out.2.1 1 _ rfl
        have r0 := cell_hp hI.out.2.2.1 0 _ rfl
        have r1 := cell_hp hI.out.2.2.1 1 _ rfl
        have g0 := free_hp hI.out.2.2.1 0
        have g1 := free_hp hI.out.2.2.1 1
        have hownR := own_ne HO2.out hI.out.2.2.1 (by decide)
        have HB2 := Lib.hid hI.out.2.2.2
        have HNE := Lib.hid hownR
        clear hI hme hownR
        go_wp2
        go_region
        all_goals
          (try go_wp2)
          refine bodyPost_ret (v := .tuple #[.slice rr toks.length cap, .agg #[.int .i64 0, .int .i64 0]]) (by simp [results, Tryz.results8, go_sem, r0, r1]) rfl ?_
          refine prr_ok HSH.out ?_ (((HB2.out.setCell (p := ⟨w.heap.size, 0, none⟩) (Nat.le_refl _) _).setCell (p := ⟨w.heap.size, 1, none⟩) (Nat.le_refl _) _).drew)
          exact ownsRow_setCell_other (ownsRow_setCell_other HO2.out (a := ⟨w.heap.size, 0, none⟩) HNE.out _) (a := ⟨w.heap.size, 1, none⟩) HNE.out _
  · obtain ⟨c, hc0⟩ : ∃ c, (rwT s).2.1 = c := ⟨_, rfl⟩
    obtain ⟨p, hp0⟩ : ∃ p, (rwT s).2.2 = p := ⟨_, rfl⟩
    rw [hc0] at hc
    rw [hc0, hp0] at hsh
    have hp1 := hat.2.1
    rw [hp0] at hp1
    rw [hsh] at hR
    have qc : ((c : Int) != 0) = true := by simp only [bne_iff_ne, ne_eq]; omega
    have HSH := Lib.hid hsh
    have HC := Lib.hid hc
    clear hsh hat hc0 hp0 hE hc
    go_enter Tryz.func8, Tryz.ntmps8
    go_wp2_with fail
    refine hR.mono ?_
    rintro e w1 ⟨v, rfl, hown, hb⟩
    obtain ⟨rr, cap, rfl⟩ := own_nil3 hown
    obtain ⟨hbW, hxR⟩ := res1 hb (by simp)
    have hlR := hlt_of hxR
    have HXR := Lib.hid hxR
    clear hR hown hb hxR
    go_wp2_with fail
    refine (bad_any _ _ _).mono ?_
    rintro e w2 ⟨rfl, hb⟩
    obtain ⟨hbA, hxF⟩ := res1 hb (by simp)
    have hbB := hbW.trans (hbA.mono hbW.size)
    have hxR2 : w2.heap[w.heap.size]? = some (.cells #[.int .i64 0, .int .i64 0] 27) := (hbA.block _ hlR).trans HXR.out
    have f0 := cell_hp hxF 0 _ rfl
    have f1 := cell_hp hxF 1 _ rfl
    have r0 := cell_hp hxR2 0 _ rfl
    have r1 := cell_hp hxR2 1 _ rfl
    have g0 := free_hp hxR2 0
    have g1 := free_hp hxR2 1
    have x5 : IntKind.i64.wrap (base + (p : Int)) = base + (p : Int) := by rw [IntKind.wrap_i64]; omega
    have HB := Lib.hid hbB
    clear hb hbA hxF hbB hxR2 HXR hbW
    go_wp2
    go_region
    all_goals
      (try go_wp2)
      refine bodyPost_ret (v := .tuple #[.slice none 0 0, .agg #[.int .i64 (c : Nat), .int .i64 (base + (p : Nat))]]) (by simp [results, Tryz.results8, go_sem, r0, r1]) rfl ?_
      exact prr_bad HSH.out HC.out rfl (((HB.out.setCell (p := ⟨w.heap.size, 0, none⟩) (Nat.le_refl _) _).setCell (p := ⟨w.heap.size, 1, none⟩) (Nat.le_refl _) _).drew)
end Go.Proofs.YtnnnanemefcmdaaGreatDoor
namespace Go.Proofs.YtnnnanemefcmdaaGreatDoor
open Go.RowKit

structure EnvT (w : World) : Prop where
  tz : TzCell w
  mx : MaxLenCell w
  er : ErrCell w
  ut : Lib.Utf8Tabs 0 1 w
theorem EnvT.below {w w' : World} (h : EnvT w) (hb : Below w.heap.size w w') : EnvT w' := ⟨tz_below h.tz hb, max_below h.mx hb, err_below h.er hb, Utf8Tabs_below h.ut hb⟩
set_option maxRecDepth 100000 in
set_option maxHeartbeats 1000000 in
theorem fault7_any (a b : Int) (w : World) :
    Calls Tryz.prog 10 #[.int .i64 a, .int .i64 b] w fun e w' => e = .returned (.agg #[.int .i64 a, .int .i64 b]) ∧ Below w.heap.size w w' := by
  go_enter Tryz.func10, Tryz.ntmps10
  go_wp2
  refine bodyPost_ret (v := .agg #[.int .i64 a, .int .i64 b]) (by simp [results, Tryz.results10, go_sem]) rfl ⟨rfl, ?_⟩
  exact ((Below.refl _ _).alloc (Nat.le_refl _) _)
set_option maxRecDepth 100000 in
set_option maxHeartbeats 1000000 in
theorem near_yes (b : Int) (w : World) (h1 : -2199023255552 ≤ b) (h2 : b ≤ 2199023255552) :
    Calls Tryz.prog 6 #[.int .i64 b] w fun e w' => e = .returned (.bool true) ∧ w = w' := by
  have d1 : decide (-2199023255552 ≤ b) = true := decide_eq_true h1
  have d2 : decide (b ≤ 2199023255552) = true := decide_eq_true h2
  go_enter Tryz.func6, Tryz.ntmps6
  go_wp2
  go_ret
  exact ⟨rfl, rfl⟩
set_option maxRecDepth 100000 in
set_option maxHeartbeats 1000000 in
theorem near_no (b : Int) (w : World) (h : b < -2199023255552 ∨ 2199023255552 < b) :
    Calls Tryz.prog 6 #[.int .i64 b] w fun e w' => e = .returned (.bool false) ∧ w = w' := by
  rcases h with h | h
  · have d1 : decide (-2199023255552 ≤ b) = false := decide_eq_false (by omega)
    go_enter Tryz.func6, Tryz.ntmps6
    go_wp2
    go_ret
    exact ⟨rfl, rfl⟩
  · have d1 : decide (-2199023255552 ≤ b) = true := decide_eq_true (by omega)
    have d2 : decide (b ≤ 2199023255552) = false := decide_eq_false (by omega)
    go_enter Tryz.func6, Tryz.ntmps6
    go_wp2
    go_ret
    exact ⟨rfl, rfl⟩
def sclB (k : Nat) : Bool := decide (k = 11) || decide (k = 12)
set_option maxRecDepth 100000 in
set_option maxHeartbeats 1000000 in
theorem scalar_any (k : Nat) (a : Int) (t : ByteArray) (w : World) :
    Calls Tryz.prog 15 #[.agg #[.int .i64 (k : Nat), .int .i64 a, .string t]] w fun e w' => e = .returned (.bool (sclB k)) ∧ Below w.heap.size w w' := by
  by_cases h1 : k = 11
  · have q1 : ((k : Int) == 11) = true := by simp only [beq_iff_eq]; omega
    have HS := Lib.hid (show sclB k = true by unfold sclB; rw [decide_eq_true h1]; rfl)
    clear h1
    go_enter Tryz.func15, Tryz.ntmps15
    go_wp2
    go_ret
    exact ⟨by rw [HS.out]; rfl, (Below.refl _ _).alloc (Nat.le_refl _) _⟩
  · have q1 : ((k : Int) == 11) = false := by simp only [beq_eq_false_iff_ne, ne_eq]; omega
    by_cases h2 : k = 12
    · have q2 : ((k : Int) == 12) = true := by simp only [beq_iff_eq]; omega
      have HS := Lib.hid (show sclB k = true by unfold sclB; rw [decide_eq_true h2]; simp)
      clear h1 h2
      go_enter Tryz.func15, Tryz.ntmps15
      go_wp2
      go_ret
      exact ⟨by rw [HS.out]; rfl, (Below.refl _ _).alloc (Nat.le_refl _) _⟩
    · have q2 : ((k : Int) == 12) = false := by simp only [beq_eq_false_iff_ne, ne_eq]; omega
      have HS := Lib.hid (show sclB k = false by unfold sclB; rw [decide_eq_false h1, decide_eq_false h2]; rfl)
      clear h1 h2
      go_enter Tryz.func15, Tryz.ntmps15
      go_wp2
      go_ret
      exact ⟨by rw [HS.out]; rfl, (Below.refl _ _).alloc (Nat.le_refl _) _⟩
def ex7 : ByteArray := ⟨#[45, 32, 97, 58, 32, 91, 98, 44, 32, 39, 99, 39, 93]⟩
def ex7T : List Tk := [(1, 0, []), (11, 2, [97]), (2, 3, []), (4, 5, []), (11, 6, [98]), (3, 7, []), (12, 9, [99]), (5, 12, [])]
theorem ex7_row : rwT ex7 = (ex7T, 0, 0) := by decide +kernel
/-- The example's cells. -/
structure A7 (g F : Nat) (w : World) : Prop where
  c0 : w.cell? ⟨g, 0, none⟩ = some (.int .i64 1)
  c1 : w.cell? ⟨g, 18, none⟩ = some (.int .i64 12)
  c2 : w.cell? ⟨g, 19, none⟩ = some (.int .i64 9)
  c3 : w.cell? ⟨g, 20, none⟩ = some (.string ⟨#[99]⟩)
  f0 : w.cell? ⟨F, 0, none⟩ = some (.int .i64 0)
  f1 : w.cell? ⟨F, 1, none⟩ = some (.int .i64 0)
  lg : g < w.heap.size
  lF : F < w.heap.size
theorem A7.below {g F : Nat} {w w' : World} (h : A7 g F w) (hb : Below w.heap.size w w') : A7 g F w' :=
  ⟨(hb.cell (p := ⟨g, 0, none⟩) h.lg).trans h.c0, (hb.cell (p := ⟨g, 18, none⟩) h.lg).trans h.c1, (hb.cell (p := ⟨g, 19, none⟩) h.lg).trans h.c2, (hb.cell (p := ⟨g, 20, none⟩) h.lg).trans h.c3,
    (hb.cell (p := ⟨F, 0, none⟩) h.lF).trans h.f0, (hb.cell (p := ⟨F, 1, none⟩) h.lF).trans h.f1, Nat.lt_of_lt_of_le h.lg hb.size, Nat.lt_of_lt_of_le h.lF hb.size⟩
set_option maxRecDepth 100000 in
set_option maxHeartbeats 4000000 in
theorem awake7_any (w : World) (h : EnvT w) :
    Calls Tryz.prog 7 #[] w fun e w' => e = .returned (.bool true) ∧ Below w.heap.size w w' := by
  have hR : Calls Tryz.prog 8 #[.string ⟨#[45, 32, 97, 58, 32, 91, 98, 44, 32, 39, 99, 39, 93]⟩, .int .i64 0] w fun e w' => ∃ v, e = .returned (.tuple #[v, .agg #[.int .i64 0, .int .i64 0]]) ∧ w'.ownsRow w.heap.size 38 3 v 8 (ex7T.flatMap (tkR 0)) ∧ Below w.heap.size w w' :=
    (prRow_any ex7 0 w (by decide) (by omega) (by omega) h.er).mono (fun e w' hp => by rw [ex7_row] at hp; exact hp)
  have H := Lib.hid h
  clear h
  go_enter Tryz.func7, Tryz.ntmps7
  go_wp2_with fail
  refine hR.mono ?_
  rintro e w1 ⟨v, rfl, hown, hb1⟩
  obtain ⟨g, cap, rfl, hnc, hcm, hg, hgl, hc⟩ := own_cells hown (by decide)
  unfold maxLen at hcm
  have hA : A7 g w1.heap.size (w1.alloc (.cells #[.int .i64 0, .int .i64 0] 27)) := by
    have hx := heap_alloc_new w1 (.cells #[.int .i64 0, .int .i64 0] 27)
    refine ⟨?_, ?_, ?_, ?_, cell_hp hx 0 _ rfl, cell_hp hx 1 _ rfl, by simp; omega, by simp⟩
    · rw [World.cell?_alloc_lt _ _ _ hgl]; exact hc 0 _ rfl
    · rw [World.cell?_alloc_lt _ _ _ hgl]; exact hc 18 _ rfl
    · rw [World.cell?_alloc_lt _ _ _ hgl]; exact hc 19 _ rfl
    · rw [World.cell?_alloc_lt _ _ _ hgl]; exact hc 20 _ rfl
  have hB1 := hb1.alloc hb1.size (.cells #[.int .i64 0, .int .i64 0] 27)
  have HA := Lib.hid hA
  clear hR hown hc hA hb1
  go_wp2_with fail
  refine (awake5_any _ (H.out.below hB1).tz (H.out.below hB1).mx).mono ?_
  rintro e w2 ⟨rfl, hb⟩
  have hB2 := hB1.trans (hb.mono hB1.size)
  have HA2 := Lib.hid (HA.out.below hb)
  clear hb hB1 HA
  generalize w1.heap.size = F at *
  go_wp2_with fail
  refine (awake6_any _ (H.out.below hB2).ut).mono ?_
  rintro e w3 ⟨rfl, hb⟩
  have hB3 := hB2.trans (hb.mono hB2.size)
  have hA3 := HA2.out.below hb
  have f0 := hA3.f0
  have f1 := hA3.f1
  have hz : ((0 : Int) != 0) = false := rfl
  have HA3 := Lib.hid hA3
  clear hb hB2 HA2 hA3
  go_wp2_with fail
  refine (bad_any _ _ _).mono ?_
  rintro e w4 ⟨rfl, hb⟩
  have hB4 := hB3.trans (hb.mono hB3.size)
  have hA4 := HA3.out.below hb
  have c0 := hA4.c0
  have c1 := hA4.c1
  have c2 := hA4.c2
  have c3 := hA4.c3
  clear hb hB3 HA3 hA4 f0 f1
  go_wp2_with fail
  refine (scalar_any 12 9 ⟨#[99]⟩ _).mono ?_
  rintro e w5 ⟨rfl, hb⟩
  have hB5 := hB4.trans (hb.mono hB4.size)
  rw [show sclB 12 = true from rfl]
  clear hb hB4 c0 c1 c2 c3
  go_wp2
  go_ret
  exact ⟨rfl, hB5⟩
end Go.Proofs.YtnnnanemefcmdaaGreatDoor
