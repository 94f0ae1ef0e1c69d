/- What lies in memory while a way is gone through, and what a round makes of it. -/
import Derived.Test.YtplgcegpmebejaaDoorRows
import Derived.Test.YtplgcegpmebejaaDoorAid
import Derived.WalkKit
import Derived.WalkLawsBesides
import Derived.Laws.NewBlocks
import Derived.Deep.AppendLies
namespace Go.Proofs.YtplgcegpmebejaaDoor
open Go.RowKit

/-- The rows of the law's argument, in a world: words, and places where there are such. -/
def ArgW (r : Option Addr) (n : Nat) (W : Nat → ByteArray) (w : World) : Prop := ∀ k, k < n → ∃ a : Addr, r = some a ∧ (a.add k).block < w.heap.size ∧ w.cell? (a.add k) = some (.string (W k))
def ArgI (r : Option Addr) (n : Nat) (I : Nat → Int) (w : World) : Prop := ∀ k, k < n → ∃ a : Addr, r = some a ∧ (a.add k).block < w.heap.size ∧ w.cell? (a.add k) = some (.int .i64 (I k))
/-- The place that goes with word k. -/
def atOf (n' : Nat) (I : Nat → Int) (k : Nat) : Int := if k < n' then I k else 0
/-- What lies when k words have been gone through. -/
def OfAt (w : World) (r r' : Option Addr) (n c n' c' e : Nat) (cd a : Int) (xs ys : List Value) (vs va : Value) (k : Nat) (wr : World) : Prop :=
  wr.ownsRow (w.heap.size + 3) 9 1 vs k xs ∧ wr.ownsRow (w.heap.size + 3) 3 1 va k ys ∧
  (vs.ownBlock = none ∨ vs.ownBlock ≠ va.ownBlock) ∧ Below w.heap.size w wr ∧
  (wr.cell? ⟨w.heap.size, 0, none⟩ = some (.slice r n c) ∧ wr.cell? ⟨w.heap.size, 1, none⟩ = some (.slice r' n' c') ∧ wr.cell? ⟨w.heap.size, 4, none⟩ = some (.int .i64 a)) ∧
  (wr.cell? ⟨w.heap.size + 1 + 1, 0, none⟩ = some vs ∧ wr.cell? ⟨w.heap.size + 1 + 1, 1, none⟩ = some va ∧ wr.cell? ⟨w.heap.size + 1 + 1, 2, none⟩ = some (.int .i64 ((e : Int) % 3)) ∧ wr.cell? ⟨w.heap.size + 1 + 1, 3, none⟩ = some (.int .i64 cd) ∧ wr.cell? ⟨w.heap.size + 1 + 1, 4, none⟩ = some (.int .i64 a)) ∧
  (wr.frozen? ⟨w.heap.size + 1 + 1, 0, none⟩ = false ∧ wr.frozen? ⟨w.heap.size + 1 + 1, 1, none⟩ = false) ∧
  wr.heap[w.heap.size + 1]? = some (.cells #[.slice none 0 0, .slice none 0 0, .int .i64 0, .int .i64 0, .int .i64 0] 29)

theorem of_start (w : World) (r r' : Option Addr) (n c n' c' e : Nat) (cd a : Int) (x1 : TypeId) :
    OfAt w r r' n c n' c' e cd a [] [] (.slice none 0 0) (.slice none 0 0) 0 (((w.alloc (.cells #[.slice r n c, .slice r' n' c', .int .u8 e, .int .i64 cd, .int .i64 a] x1)).alloc (.cells #[.slice none 0 0, .slice none 0 0, .int .i64 0, .int .i64 0, .int .i64 0] 29)).alloc (.cells #[.slice none 0 0, .slice none 0 0, .int .i64 ((e : Int) % 3), .int .i64 cd, .int .i64 a] 29)) := by
  have hs : ∀ o, (w.alloc o).heap.size = w.heap.size + 1 := by simp
  refine ⟨World.ownsRow_nil _ _ _ _, World.ownsRow_nil _ _ _ _, .inl rfl, ?_, ⟨?_, ?_, ?_⟩, ⟨?_, ?_, ?_, ?_, ?_⟩, ⟨?_, ?_⟩, ?_⟩
  · exact ((((Below.refl _ _).alloc (Nat.le_refl _) _).alloc (by simp) _).alloc (by simp; omega) _)
  · rw [World.cell?_alloc_lt _ _ _ (by simp; omega), World.cell?_alloc_lt _ _ _ (by simp), World.cell?_alloc_at _ _ _ _ rfl]; rfl
  · rw [World.cell?_alloc_lt _ _ _ (by simp; omega), World.cell?_alloc_lt _ _ _ (by simp), World.cell?_alloc_at _ _ _ _ rfl]; rfl
  · rw [World.cell?_alloc_lt _ _ _ (by simp; omega), World.cell?_alloc_lt _ _ _ (by simp), World.cell?_alloc_at _ _ _ _ rfl]; rfl
  · rw [World.cell?_alloc_at _ _ _ _ (by simp)]; rfl
  · rw [World.cell?_alloc_at _ _ _ _ (by simp)]; rfl
  · rw [World.cell?_alloc_at _ _ _ _ (by simp)]; rfl
  · rw [World.cell?_alloc_at _ _ _ _ (by simp)]; rfl
  · rw [World.cell?_alloc_at _ _ _ _ (by simp)]; rfl
  · rw [World.frozen?_alloc_at _ _ _ _ (by simp)]
  · rw [World.frozen?_alloc_at _ _ _ _ (by simp)]
  · rw [Below.heap_alloc _ _ _ (by simp)]
    have h := heap_alloc_new (w.alloc (.cells #[.slice r n c, .slice r' n' c', .int .u8 e, .int .i64 cd, .int .i64 a] x1)) (.cells #[.slice none 0 0, .slice none 0 0, .int .i64 0, .int .i64 0, .int .i64 0] 29)
    rwa [World.size_alloc] at h

theorem own_mono' {w : World} {b b' : Nat} {e : TypeId} {size n : Nat} {v : Value} {xs : List Value} (h : w.ownsRow b e size v n xs) (hb : b' ≤ b) : w.ownsRow b' e size v n xs := by
  refine ⟨h.1, ?_⟩
  rcases h.2 with h | ⟨g, cap, cur, rfl, hg, rest⟩
  · exact .inl h
  · exact .inr ⟨g, cap, cur, rfl, by omega, rest⟩
theorem grown_set (w : World) (p : Addr) (v : Value) : w.grownBy (w.setCell p v) (some p.block) :=
  ⟨rfl, rfl, rfl, by simp, fun k _ hk => Below.heap_setCell _ _ _ k (fun e => hk (by rw [e]))⟩

/-- A block of the call's own under the rows stays as it is through two appends. -/
theorem of_block {w wr wa w1 wb w2 : World} {vs va : Value} {k : Nat} {xs ys : List Value} {e1 e2 : TypeId} (o1 : wr.ownsRow (w.heap.size + 3) e1 1 vs k xs) (o2 : wr.ownsRow (w.heap.size + 3) e2 1 va k ys)
    (g0 : wr.grownBy wa none) (g1 : wa.grownBy w1 vs.ownBlock) (g2 : w1.grownBy wb none) (g3 : wb.grownBy w2 va.ownBlock) {b : Nat} (hb : b < w.heap.size + 3) (hbr : b < wr.heap.size) : w2.heap[b]? = wr.heap[b]? := by
  have s0 := g0.size; have s1 := g1.size; have s2 := g2.size
  have n1 : some b ≠ vs.ownBlock := fun e => by have := (o1.lt b e.symm).1; omega
  have n2 : some b ≠ va.ownBlock := fun e => by have := (o2.lt b e.symm).1; omega
  rw [g3.block b (by omega) n2, g2.block b (by omega) (by simp), g1.block b (by omega) n1, g0.block b hbr (by simp)]
theorem of_block1 {w wr wa w1 : World} {vs : Value} {k : Nat} {xs : List Value} {e1 : TypeId} (o1 : wr.ownsRow (w.heap.size + 3) e1 1 vs k xs)
    (g0 : wr.grownBy wa none) (g1 : wa.grownBy w1 vs.ownBlock) {b : Nat} (hb : b < w.heap.size + 3) (hbr : b < wr.heap.size) : w1.heap[b]? = wr.heap[b]? := by
  have s0 := g0.size
  have n1 : some b ≠ vs.ownBlock := fun e => by have := (o1.lt b e.symm).1; omega
  rw [g1.block b (by omega) n1, g0.block b hbr (by simp)]
/-- The second row behind the first one's append. -/
theorem of_own2 {w wr wa w1 wb : World} {vs va : Value} {k : Nat} {ys : List Value} {e2 : TypeId} (o2 : wr.ownsRow (w.heap.size + 3) e2 1 va k ys) (o3 : vs.ownBlock = none ∨ vs.ownBlock ≠ va.ownBlock)
    (g0 : wr.grownBy wa none) (g1 : wa.grownBy w1 vs.ownBlock) (g2 : w1.grownBy wb none) : wb.ownsRow (w.heap.size + 3) e2 1 va k ys := by
  have hn : ∀ x : Option Nat, x = none ∨ x ≠ none := fun x => by cases x <;> simp
  refine ((o2.kept g0 (hn _)).kept g1 ?_).kept g2 (hn _)
  cases hv : va.ownBlock with
  | none => exact .inl rfl
  | some j =>
    right
    intro e
    rcases o3 with h | h
    · rw [h] at e; cases e
    · exact h (by rw [hv, e])

/-- What a round leaves, its two stores done. -/
theorem of_step {w wr wa w1 wb w2 : World} {r r' : Option Addr} {n c n' c' e : Nat} {cd a : Int} {xs ys xs1 ys1 : List Value} {vs va : Value} {k gg hh cap cap2 : Nat}
    (hof : OfAt w r r' n c n' c' e cd a xs ys vs va k wr) (g0 : wr.grownBy wa none)
    (own1 : w1.ownsRow (w.heap.size + 3) 9 1 (.slice (some ⟨gg, 0, none⟩) (k + 1) cap) (k + 1) xs1) (g1 : wa.grownBy w1 vs.ownBlock) (at1 : vs.ownBlock = some gg ∨ gg = wa.heap.size) (lt1 : gg < w1.heap.size) (g2 : w1.grownBy wb none)
    (own2 : w2.ownsRow (w.heap.size + 3) 3 1 (.slice (some ⟨hh, 0, none⟩) (k + 1) cap2) (k + 1) ys1) (g3 : wb.grownBy w2 va.ownBlock) (at2 : va.ownBlock = some hh ∨ hh = wb.heap.size) :
    OfAt w r r' n c n' c' e cd a xs1 ys1 (.slice (some ⟨gg, 0, none⟩) (k + 1) cap) (.slice (some ⟨hh, 0, none⟩) (k + 1) cap2) (k + 1)
      ((w2.setCell ⟨w.heap.size + 1 + 1, 0, none⟩ (.slice (some ⟨gg, 0, none⟩) (k + 1) cap)).setCell ⟨w.heap.size + 1 + 1, 1, none⟩ (.slice (some ⟨hh, 0, none⟩) (k + 1) cap2)) := by
  obtain ⟨o1, o2, o3, o4, ⟨b0, b1, b4⟩, ⟨m0, m1, m2, m3, m4⟩, ⟨f0, f1⟩, rb⟩ := hof
  have s0 := g0.size; have s1 := g1.size; have s2 := g2.size; have s3 := g3.size
  have hm : w.heap.size + 1 + 1 < wr.heap.size := World.block_lt_of_cell? wr _ m0
  have hbm : w2.heap[w.heap.size + 1 + 1]? = wr.heap[w.heap.size + 1 + 1]? := of_block o1 o2 g0 g1 g2 g3 (by omega) hm
  have hb0 : w2.heap[w.heap.size]? = wr.heap[w.heap.size]? := of_block o1 o2 g0 g1 g2 g3 (by omega) (by omega)
  have cm : ∀ j, w2.cell? ⟨w.heap.size + 1 + 1, j, none⟩ = wr.cell? ⟨w.heap.size + 1 + 1, j, none⟩ := fun j => World.cell?_of_block hbm
  have cb : ∀ j, w2.cell? ⟨w.heap.size, j, none⟩ = wr.cell? ⟨w.heap.size, j, none⟩ := fun j => World.cell?_of_block hb0
  have fm : ∀ j, w2.frozen? ⟨w.heap.size + 1 + 1, j, none⟩ = wr.frozen? ⟨w.heap.size + 1 + 1, j, none⟩ := fun j => World.frozen?_of_block hbm
  have hgva : ∀ j, va.ownBlock = some j → gg ≠ j := by
    intro j hj e
    have := (o2.lt j hj).2
    rcases at1 with h | h
    · rcases o3 with h3 | h3
      · rw [h3] at h; cases h
      · exact h3 (by rw [h, hj, e])
    · omega
  have hgg : w.heap.size + 3 ≤ gg := by
    rcases own1.2 with ⟨h, _⟩ | ⟨g', _, _, h, hg', _⟩
    · cases h
    · cases h; exact hg'
  have hhh : w.heap.size + 3 ≤ hh := by
    rcases own2.2 with ⟨h, _⟩ | ⟨g', _, _, h, hg', _⟩
    · cases h
    · cases h; exact hg'
  have hne : gg ≠ hh := by
    rcases at2 with h | h
    · exact hgva hh h
    · omega
  have p1 : w2.ownsRow (w.heap.size + 3) 9 1 (.slice (some ⟨gg, 0, none⟩) (k + 1) cap) (k + 1) xs1 := by
    refine (own1.kept g2 (.inr (by simp [Value.ownBlock]))).kept g3 (.inr ?_)
    intro e
    exact hgva gg (by rw [← e]; rfl) rfl
  have hbel : Below w.heap.size w w2 := by
    have q0 : Below w.heap.size w wa := o4.grown g0 (by omega) (fun _ h => by cases h)
    have q1 : Below w.heap.size w w1 := q0.grown g1 (by omega) (fun j hj => by have := (o1.lt j hj).1; omega)
    have q2 : Below w.heap.size w wb := q1.grown g2 (by omega) (fun _ h => by cases h)
    exact q2.grown g3 (by omega) (fun j hj => by have := (o2.lt j hj).1; omega)
  have st0 := grown_set w2 ⟨w.heap.size + 1 + 1, 0, none⟩ (.slice (some ⟨gg, 0, none⟩) (k + 1) cap)
  have st1 := grown_set (w2.setCell ⟨w.heap.size + 1 + 1, 0, none⟩ (.slice (some ⟨gg, 0, none⟩) (k + 1) cap)) ⟨w.heap.size + 1 + 1, 1, none⟩ (.slice (some ⟨hh, 0, none⟩) (k + 1) cap2)
  have ne0 : ∀ (x : Nat), w.heap.size + 3 ≤ x → (Value.slice (some ⟨x, 0, none⟩) (k + 1) cap).ownBlock ≠ some (w.heap.size + 1 + 1) := fun x hx h => by simp [Value.ownBlock] at h; omega
  have ne1 : ∀ (x : Nat), w.heap.size + 3 ≤ x → (Value.slice (some ⟨x, 0, none⟩) (k + 1) cap2).ownBlock ≠ some (w.heap.size + 1 + 1) := fun x hx h => by simp [Value.ownBlock] at h; omega
  have other : ∀ (u : World) (j j' : Nat) (v : Value), j ≠ j' → (u.setCell ⟨w.heap.size + 1 + 1, j, none⟩ v).cell? ⟨w.heap.size + 1 + 1, j', none⟩ = u.cell? ⟨w.heap.size + 1 + 1, j', none⟩ := fun u j j' v h => World.cell?_setCell_other _ _ _ _ (by intro hh; exact h (by injection hh))
  have box : ∀ (u : World) (j j' : Nat) (v : Value), (u.setCell ⟨w.heap.size + 1 + 1, j, none⟩ v).cell? ⟨w.heap.size, j', none⟩ = u.cell? ⟨w.heap.size, j', none⟩ := fun u j j' v => World.cell?_setCell_other _ _ _ _ (by simp)
  refine ⟨(p1.kept st0 (.inr (ne0 gg hgg))).kept st1 (.inr (ne0 gg hgg)), (own2.kept st0 (.inr (ne1 hh hhh))).kept st1 (.inr (ne1 hh hhh)), .inr (by simp [Value.ownBlock, hne]), (hbel.setCell (by show w.heap.size ≤ w.heap.size + 1 + 1; omega) _).setCell (by show w.heap.size ≤ w.heap.size + 1 + 1; omega) _, ⟨?_, ?_, ?_⟩, ⟨?_, ?_, ?_, ?_, ?_⟩, ⟨?_, ?_⟩, ?_⟩
  · rw [box, box, cb]; exact b0
  · rw [box, box, cb]; exact b1
  · rw [box, box, cb]; exact b4
  · rw [other _ _ _ _ (by decide)]; exact World.cell?_setCell_same _ _ _ ((cm 0).trans m0)
  · exact World.cell?_setCell_same _ _ _ ((other _ _ _ _ (by decide)).trans ((cm 1).trans m1))
  · rw [other _ _ _ _ (by decide), other _ _ _ _ (by decide), cm]; exact m2
  · rw [other _ _ _ _ (by decide), other _ _ _ _ (by decide), cm]; exact m3
  · rw [other _ _ _ _ (by decide), other _ _ _ _ (by decide), cm]; exact m4
  · rw [World.frozen?_setCell, World.frozen?_setCell, fm]; exact f0
  · rw [World.frozen?_setCell, World.frozen?_setCell, fm]; exact f1
  · rw [Below.heap_setCell _ _ _ _ (by simp), Below.heap_setCell _ _ _ _ (by simp), of_block o1 o2 g0 g1 g2 g3 (by omega) (by omega)]; exact rb

/-- The rows of a way's words and places, in a world. -/
def RowsAt (g h : Nat) (L : List (ByteArray × Int)) (w : World) : Prop :=
  g < w.heap.size ∧ h < w.heap.size ∧ ∀ k s, L[k]? = some s → w.cell? ⟨g, k, none⟩ = some (.string s.1) ∧ w.cell? ⟨h, k, none⟩ = some (.int .i64 s.2)
/-- The two rows of the call's own, as a way's. -/
theorem of_rows {w wr : World} {r r' : Option Addr} {n c n' c' e : Nat} {cd a : Int} {vs va : Value} {k : Nat} (L : List (ByteArray × Int)) (hL : L.length = k)
    (hof : OfAt w r r' n c n' c' e cd a (L.map fun s => .string s.1) (L.map fun s => .int .i64 s.2) vs va k wr) :
    ∃ (q q' : Option Addr) (g h d d' : Nat), vs = .slice q k d ∧ va = .slice q' k d' ∧ (k = 0 ∨ q = some ⟨g, 0, none⟩ ∧ q' = some ⟨h, 0, none⟩) ∧
      ∀ w', (∀ b, w.heap.size + 3 ≤ b → b < wr.heap.size → w'.heap[b]? = wr.heap[b]?) → wr.heap.size ≤ w'.heap.size → 0 < k → RowsAt g h L w' := by
  obtain ⟨o1, o2, _⟩ := hof
  have c1 := fun g hg => o1.cells (g := g) hg
  have c2 := fun g hg => o2.cells (g := g) hg
  rcases o1.2 with ⟨rfl, h0⟩ | ⟨g, cap, cur, rfl, hg, hgg, _⟩
  · subst h0
    rcases o2.2 with ⟨rfl, _⟩ | ⟨h, cap', cur', rfl, _⟩
    · exact ⟨none, none, 0, 0, 0, 0, rfl, rfl, .inl rfl, fun _ _ _ h => absurd h (by omega)⟩
    · exact ⟨none, some ⟨h, 0, none⟩, 0, 0, 0, cap', rfl, rfl, .inl rfl, fun _ _ _ h => absurd h (by omega)⟩
  · rcases o2.2 with ⟨rfl, h0⟩ | ⟨h, cap', cur', rfl, hh, hhh, _⟩
    · subst h0
      exact ⟨some ⟨g, 0, none⟩, none, g, 0, cap, 0, rfl, rfl, .inl rfl, fun _ _ _ h => absurd h (by omega)⟩
    · refine ⟨some ⟨g, 0, none⟩, some ⟨h, 0, none⟩, g, h, cap, cap', rfl, rfl, .inr ⟨rfl, rfl⟩, fun w' hw hz _ => ?_⟩
      have lg := (Array.getElem?_eq_some_iff.1 hgg).1
      have lh := (Array.getElem?_eq_some_iff.1 hhh).1
      refine ⟨by omega, by omega, fun j s hj => ⟨?_, ?_⟩⟩
      · rw [World.cell?_of_block (w := wr) (a := ⟨g, j, none⟩) (hw g hg lg)]
        have := c1 g rfl j (.string s.1) (by rw [List.getElem?_map, hj]; rfl)
        rwa [show (⟨g, 0, none⟩ : Addr).add j = ⟨g, j, none⟩ by simp [Addr.add, eq_comm]] at this
      · rw [World.cell?_of_block (w := wr) (a := ⟨h, j, none⟩) (hw h hh lh)]
        have := c2 h rfl j (.int .i64 s.2) (by rw [List.getElem?_map, hj]; rfl)
        rwa [show (⟨h, 0, none⟩ : Addr).add j = ⟨h, j, none⟩ by simp [Addr.add, eq_comm]] at this

theorem cell_heap {u : World} {b : Nat} {cs : Array Value} {t : TypeId} (h : u.heap[b]? = some (.cells cs t)) (j : Nat) (v : Value) (hv : cs[j]? = some v) : u.cell? ⟨b, j, none⟩ = some v := by
  simp [World.cell?, h, hv]
theorem free_heap {u : World} {b : Nat} {cs : Array Value} {t : TypeId} (h : u.heap[b]? = some (.cells cs t)) (j : Nat) : u.frozen? ⟨b, j, none⟩ = false := by
  simp [World.frozen?, h]
/-- The first k words with their places. -/
def LK (W : Nat → ByteArray) (I : Nat → Int) (n' k : Nat) : List (ByteArray × Int) := (List.range k).map fun j => (W j, atOf n' I j)
theorem LK_len (W : Nat → ByteArray) (I : Nat → Int) (n' k : Nat) : (LK W I n' k).length = k := by simp [LK]
theorem LK_succ (W : Nat → ByteArray) (I : Nat → Int) (n' k : Nat) : LK W I n' (k + 1) = LK W I n' k ++ [(W k, atOf n' I k)] := by simp [LK, List.range_succ]
/-- A way as the document has it. -/
def LL (W : Nat → ByteArray) (I : Nat → Int) (n' n e : Nat) (a : Int) : List (ByteArray × Int) := LK W I n' n ++ (if e % 3 = 0 then [(⟨#[101, 110, 100]⟩, a)] else [])
def OfPost (w : World) (W : Nat → ByteArray) (I : Nat → Int) (n' n e : Nat) (cd a : Int) (x : Ending) (w' : World) : Prop :=
  ∃ (q q' : Option Addr) (g h d d' N : Nat), N = (LL W I n' n e a).length ∧ x = .returned (.agg #[.slice q N d, .slice q' N d', .int .i64 ((e : Int) % 3), .int .i64 cd, .int .i64 a]) ∧
    (N = 0 ∨ q = some ⟨g, 0, none⟩ ∧ q' = some ⟨h, 0, none⟩) ∧ (0 < N → RowsAt g h (LL W I n' n e a) w') ∧ Below w.heap.size w w'
theorem set5_block {u : World} {b k : Nat} (v0 v1 v2 v3 v4 : Value) (h : k ≠ b) : (((((u.setCell ⟨b, 0, none⟩ v0).setCell ⟨b, 1, none⟩ v1).setCell ⟨b, 2, none⟩ v2).setCell ⟨b, 3, none⟩ v3).setCell ⟨b, 4, none⟩ v4).heap[k]? = u.heap[k]? := by
  rw [Below.heap_setCell _ _ _ _ h, Below.heap_setCell _ _ _ _ h, Below.heap_setCell _ _ _ _ h, Below.heap_setCell _ _ _ _ h, Below.heap_setCell _ _ _ _ h]
theorem set5_below {w u : World} {B b : Nat} (v0 v1 v2 v3 v4 : Value) (h : Below B w u) (hb : B ≤ b) : Below B w (((((u.setCell ⟨b, 0, none⟩ v0).setCell ⟨b, 1, none⟩ v1).setCell ⟨b, 2, none⟩ v2).setCell ⟨b, 3, none⟩ v3).setCell ⟨b, 4, none⟩ v4) :=
  ((((h.setCell (p := ⟨b, 0, none⟩) hb _).setCell (p := ⟨b, 1, none⟩) hb _).setCell (p := ⟨b, 2, none⟩) hb _).setCell (p := ⟨b, 3, none⟩) hb _).setCell (p := ⟨b, 4, none⟩) hb _
theorem set5_size {u : World} {b : Nat} (v0 v1 v2 v3 v4 : Value) : u.heap.size ≤ (((((u.setCell ⟨b, 0, none⟩ v0).setCell ⟨b, 1, none⟩ v1).setCell ⟨b, 2, none⟩ v2).setCell ⟨b, 3, none⟩ v3).setCell ⟨b, 4, none⟩ v4).heap.size := by simp
end Go.Proofs.YtplgcegpmebejaaDoor
