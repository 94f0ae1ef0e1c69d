/- A region that draws its order, of which some cells are held only until its last stores: behind an operation j with 'need j' the condition S is shown anew; an operation without it must wait for whatever is taken first (own law, on the library's wpOp_putIf). -/
import Derived.OrdersHeld
namespace Go.Proofs.YtplgcegpmebejaaDoor
open Go
section
variable {P : Program} {ops : Array Oper} {Q : Exit → Act → World → Prop} {md : Region.Mode} {S : World → Prop} {need : Nat → Bool}

def wpAnyJ (P : Program) (md : Region.Mode) (ops : Array Oper) (Q : Exit → Act → World → Prop) (S : World → Prop) (need : Nat → Bool) : Nat → Array Bool → Act → World → Prop
  | 0, done, a, w => Region.ready md ops done = [] ∧ Q .normal a w
  | n + 1, done, a, w => (Region.ready md ops done = [] → Q .normal a w) ∧
    ∀ j ∈ Region.ready md ops done, wpOp P ops Q j (fun a' w' => (need j = true → S w') ∧ wpAnyJ P md ops Q S need n (done.setIfInBounds j true) a' w') a w

theorem wpAnyJ_any : ∀ (n : Nat) (done : Array Bool) (a : Act) (w : World), wpAnyJ P md ops Q S need n done a w → wpAny P md ops Q n done a w
  | 0, _, _, _, h => h
  | n + 1, _, _, _, ⟨h0, h1⟩ => ⟨h0, fun j hj => wpOp_mono (fun a' w' h => wpAnyJ_any n _ a' w' h.2) (h1 j hj)⟩

/-- Does number j wait for number i, in some steps? -/
def behindB (md : Region.Mode) (ops : Array Oper) : Nat → Nat → Nat → Bool
  | 0, _, _ => false
  | f + 1, j, i => match ops[j]? with
    | some o => o.after.toList.any fun e => Region.binds md e && ((e.on == i) || behindB md ops f e.on i)
    | none => false
/-- Whoever is done, is so behind all for which it waits. -/
def ClosedP (md : Region.Mode) (ops : Array Oper) (done : Array Bool) : Prop :=
  ∀ j o, ops[j]? = some o → done.getD j true = true → ∀ e ∈ o.after, Region.binds md e = true → done.getD e.on true = true
def closedB (md : Region.Mode) (ops : Array Oper) (done : Array Bool) : Bool :=
  (List.range ops.size).all fun j => match ops[j]? with
    | some o => !(done.getD j true) || o.after.toList.all fun e => !(Region.binds md e) || done.getD e.on true
    | none => true
theorem closedB_spec {done : Array Bool} (h : closedB md ops done = true) : ClosedP md ops done := by
  intro j o hj hd e he hb
  have hlt : j < ops.size := (Array.getElem?_eq_some_iff.1 hj).1
  have h1 := List.all_eq_true.1 h j (List.mem_range.2 hlt)
  rw [hj] at h1
  simp only [hd, Bool.not_true, Bool.false_or] at h1
  have h2 := List.all_eq_true.1 h1 e (Array.mem_toList_iff.2 he)
  simpa [hb] using h2
theorem getD_ft {done : Array Bool} {k : Nat} (h : done.getD k false = true) : done.getD k true = true := by
  rcases Nat.lt_or_ge k done.size with hl | hl
  · simpa [hl] using h
  · simp [hl]
theorem getD_set {done : Array Bool} {j k : Nat} (h : done.getD k true = true) : (done.setIfInBounds j true).getD k true = true := by
  rcases Decidable.em (j = k) with rfl | hjk
  · rcases Nat.lt_or_ge j done.size with hl | hl
    · simp [hl]
    · simp [hl]
  · rwa [getD_set_ne true hjk]
theorem ClosedP.step {done : Array Bool} {j : Nat} {oj : Oper} (h : ClosedP md ops done) (hj : ops[j]? = some oj) (hall : ∀ e ∈ oj.after, Region.binds md e = true → done.getD e.on true = true) : ClosedP md ops (done.setIfInBounds j true) := by
  intro k o hk hd e he hb
  refine getD_set ?_
  rcases Decidable.em (k = j) with rfl | hkj
  · rw [hj] at hk; cases hk; exact hall e he hb
  · rw [getD_set_ne true (Ne.symm hkj)] at hd
    exact h k o hk hd e he hb
theorem behind_done {done : Array Bool} (hc : ClosedP md ops done) {i : Nat} : ∀ (f j : Nat) (oj : Oper), ops[j]? = some oj → (∀ e ∈ oj.after, Region.binds md e = true → done.getD e.on true = true) → behindB md ops f j i = true → done.getD i true = true
  | 0, _, _, _, _, h => by simp [behindB] at h
  | f + 1, j, oj, hj, hall, h => by
    rw [behindB, hj] at h
    simp only [List.any_eq_true, Bool.and_eq_true, Bool.or_eq_true, beq_iff_eq] at h
    obtain ⟨e, he, hb, ho⟩ := h
    have hd := hall e (Array.mem_toList_iff.1 he) hb
    rcases ho with ho | ho
    · rwa [ho] at hd
    · cases hk : ops[e.on]? with
      | none => cases f <;> simp [behindB, hk] at ho
      | some o => exact behind_done hc f e.on o hk (fun e' he' hb' => hc e.on o hk hd e' he' hb') ho
/-- Does every operation without 'need' wait for number i? -/
def waitsB (md : Region.Mode) (ops : Array Oper) (need : Nat → Bool) (i : Nat) : Bool :=
  (List.range ops.size).all fun j => need j || (j == i) || behindB md ops ops.size j i
theorem waitsB_spec {i j : Nat} {o : Oper} (h : waitsB md ops need i = true) (hj : ops[j]? = some o) (hn : need j = false) (hji : j ≠ i) : behindB md ops ops.size j i = true := by
  have hlt : j < ops.size := (Array.getElem?_eq_some_iff.1 hj).1
  have := List.all_eq_true.1 h j (List.mem_range.2 hlt)
  simpa [hn, hji] using this

theorem wpAnyJ_first {i : Nat} {oi : Oper} {v : Value} (hi : ops[i]? = some oi) (hsel : ∀ (j : Nat) (o : Oper) cs b, ops[j]? = some o → o.op ≠ .select cs b)
    (hQ : ∀ c a w, Q (.panic c) (a.put oi.dst v) w → Q (.panic c) a w) (hw : waitsB md ops need i = true) :
    ∀ (n : Nat) (done : Array Bool) (a : Act) (w : World), ClosedP md ops done →
      (∀ j oj, ops[j]? = some oj → j ≠ i → done.getD j true = false → (∀ e ∈ oj.after, Region.binds md e = true → e.on ≠ i) → oi.apart ops oj = true) →
      i ∈ Region.ready md ops done → YieldsIf P ops S oi v a → S w →
      wpAnyJ P md ops Q S need n (done.setIfInBounds i true) (a.put oi.dst v) w → wpAnyJ P md ops Q S need (n + 1) done a w
  | 0, done, a, w, _, _, hr, hy, hS, H => by
    refine ⟨fun h => absurd hr (by simp [h]), fun j hj => ?_⟩
    rcases Decidable.em (j = i) with rfl | hji
    · exact hy.wpOp hi hS ⟨fun _ => hS, H⟩
    · have := ready_mono hj hji
      rw [H.1] at this
      exact absurd this (by simp)
  | n + 1, done, a, w, hc, hfree, hr, hy, hS, H => by
    refine ⟨fun h => absurd hr (by simp [h]), fun j hj => ?_⟩
    rcases Decidable.em (j = i) with rfl | hji
    · exact hy.wpOp hi hS ⟨fun _ => hS, H⟩
    obtain ⟨hun, oj, hoj, hall⟩ := mem_ready.1 hj
    have hni : done.getD i true = false := (mem_ready.1 hr).1
    have hno : ∀ e ∈ oj.after, Region.binds md e = true → e.on ≠ i := by
      intro e he hb heq
      have hd := hall e he hb
      rw [heq] at hd
      rcases Nat.lt_or_ge i done.size with hl | hl
      · simp [hl] at hni hd; rw [hni] at hd; cases hd
      · simp [Array.getElem?_eq_none hl] at hni
    have hneed : need j = true := by
      cases hn : need j with
      | true => rfl
      | false =>
        have hd := behind_done hc _ j oj hoj (fun e he hb => getD_ft (hall e he hb)) (waitsB_spec hw hoj hn hji)
        rw [hni] at hd; cases hd
    have step := wpOp_putIf hoj (hfree j oj hoj hji hun hno) (fun cs b => hsel i oi cs b hi) (fun cs b => hsel j oj cs b hoj) hQ hy (H.2 j (ready_mono hj hji))
    refine wpOp_mono (fun a' w' h => ?_) step
    obtain ⟨hy', hS', hrest⟩ := h
    refine ⟨hS', wpAnyJ_first hi hsel hQ hw n _ a' w' (hc.step hoj fun e he hb => getD_ft (hall e he hb)) ?_ (ready_mono hr (Ne.symm hji)) hy' (hS' hneed) ?_⟩
    · intro k ok hk hki hku hkn
      refine hfree k ok hk hki ?_ hkn
      rcases Decidable.em (j = k) with rfl | hjk
      · exact hun
      · rwa [getD_set_ne true hjk] at hku
    · rw [Array.setIfInBounds_comm _ _ hji]; exact hrest

theorem wpAnyJ_take {i : Nat} {oi : Oper} {v : Value} {n : Nat} {done : Array Bool} {a : Act} {w : World} (hi : ops[i]? = some oi)
    (hs : Region.noSelect ops = true) (hf : Region.free md ops done i = true) (hr : (Region.ready md ops done).contains i = true) (hw : waitsB md ops need i = true) (hc : closedB md ops done = true)
    (hQ : ∀ c a w, Q (.panic c) (a.put oi.dst v) w → Q (.panic c) a w) (hS : S w) (hy : YieldsIf P ops S oi v a)
    (h : wpAnyJ P md ops Q S need n (done.setIfInBounds i true) (a.put oi.dst v) w) : wpAnyJ P md ops Q S need (n + 1) done a w :=
  wpAnyJ_first hi (Region.noSelect_spec hs) hQ hw n done a w (closedB_spec hc) (Region.free_spec hi hf) (by simpa using hr) hy hS h

theorem wpOp_of {i : Nat} {o : Oper} {a : Act} {w : World} {K : Act → World → Prop} (ho : ops[i]? = some o)
    (h : if Region.wanted o (yielded ops a.tmps) = true then Oper.wp P o a w K Q else K (a.put o.dst undef) w) : wpOp P ops Q i K a w := by
  unfold wpOp
  rw [ho]
  dsimp only
  split
  · rename_i hw; rw [if_pos hw] at h; exact .inl h
  · rename_i hw; rw [if_neg hw] at h; exact h
theorem wpAnyJ_one {j : Nat} {o : Oper} {n : Nat} {done : Array Bool} {a : Act} {w : World} (hr : Region.ready md ops done = [j]) (ho : ops[j]? = some o)
    (h : ∀ K : Act → World → Prop, (∀ a' w', (need j = true → S w') → wpAnyJ P md ops Q S need n (done.setIfInBounds j true) a' w' → K a' w') →
      if Region.wanted o (yielded ops a.tmps) = true then Oper.wp P o a w K Q else K (a.put o.dst undef) w) : wpAnyJ P md ops Q S need (n + 1) done a w :=
  ⟨fun h0 => absurd (hr.symm.trans h0) (by simp), fun k hk => by
    rw [hr] at hk; obtain rfl := List.mem_singleton.1 hk; exact wpOp_of ho (h _ fun _ _ x y => ⟨x, y⟩)⟩
theorem wpAnyJ_two {i j : Nat} {o p : Oper} {n : Nat} {done : Array Bool} {a : Act} {w : World} (hr : Region.ready md ops done = [i, j]) (ho : ops[i]? = some o) (hp : ops[j]? = some p)
    (h : ∀ K : Act → World → Prop, (∀ a' w', (need i = true → S w') → wpAnyJ P md ops Q S need n (done.setIfInBounds i true) a' w' → K a' w') →
      if Region.wanted o (yielded ops a.tmps) = true then Oper.wp P o a w K Q else K (a.put o.dst undef) w)
    (h' : ∀ K : Act → World → Prop, (∀ a' w', (need j = true → S w') → wpAnyJ P md ops Q S need n (done.setIfInBounds j true) a' w' → K a' w') →
      if Region.wanted p (yielded ops a.tmps) = true then Oper.wp P p a w K Q else K (a.put p.dst undef) w) : wpAnyJ P md ops Q S need (n + 1) done a w :=
  ⟨fun h0 => absurd (hr.symm.trans h0) (by simp), fun k hk => by
    rw [hr] at hk
    rcases List.mem_cons.1 hk with rfl | hk
    · exact wpOp_of ho (h _ fun _ _ x y => ⟨x, y⟩)
    · obtain rfl := List.mem_singleton.1 hk; exact wpOp_of hp (h' _ fun _ _ x y => ⟨x, y⟩)⟩
theorem wpAnyJ_end {done : Array Bool} {a : Act} {w : World} {n : Nat} (hr : Region.ready md ops done = []) (h : Q .normal a w) : wpAnyJ P md ops Q S need n done a w := by
  cases n with
  | zero => exact ⟨hr, h⟩
  | succ n => exact ⟨fun _ => h, by rw [hr]; simp⟩
theorem wp_region_J {id : Nat} {a : Act} {w : World} (hm : P.follows .mixedOrders = true)
    (h : wpAnyJ P .any ops Q S need ops.size (Array.replicate ops.size false) a { w with drawn := w.drawn + 1 }) : (Code.region id ops true).wp P Q a w :=
  wp_region_any hm (wpAnyJ_any _ _ _ _ h)
end
end Go.Proofs.YtplgcegpmebejaaDoor
