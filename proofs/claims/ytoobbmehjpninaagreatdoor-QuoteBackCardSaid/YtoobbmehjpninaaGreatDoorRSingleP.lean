/- Plain: The valuess of the document's end and Single. -/
import Derived.Test.YtoobbmehjpninaaGreatDoorWSingleP
namespace Go.Proofs.YtoobbmehjpninaaGreatDoor
open Go.RowKit

theorem own_mono8 {w : World} {b : Nat} {e : TypeId} {size n : Nat} {v : Value} {xs : List Value} (h : w.ownsRow (b + 1) e size v n xs) : w.ownsRow b e size v n xs := by
  refine ⟨h.1, ?_⟩
  rcases h.2 with h | ⟨g, cap, cur, rfl, hg, rest⟩
  · exact .inl h
  · exact .inr ⟨g, cap, cur, rfl, by omega, rest⟩
/-- A text that was read, or that is too long. -/
def gotV (t : List UInt8) (at' next : Int) : Value := if 1024 < t.length then .agg #[.string ⟨#[]⟩, .int .i64 0, .int .i64 5, .int .i64 at'] else .agg #[.string ⟨t.toArray⟩, .int .i64 next, .int .i64 0, .int .i64 0]
theorem cell_heap4 {u : World} {b : Nat} {cs : Array Value} {t : TypeId} (h : u.heap[b]? = some (.cells cs t)) (j : Nat) (v : Value) (hv : cs[j]? = some v) : u.cell? ⟨b, j, none⟩ = some v := by
  simp [World.cell?, h, hv]
theorem free_heap4 {u : World} {b : Nat} {cs : Array Value} {t : TypeId} (h : u.heap[b]? = some (.cells cs t)) (j : Nat) : u.frozen? ⟨b, j, none⟩ = false := by
  simp [World.frozen?, h]
/-- A block ahead of the rows stays through an append. -/
theorem res_keep {wr w1 : World} {e : TypeId} {n B : Nat} {v : Value} {xs : List Value} (hown : wr.ownsRow (B + 1) e 1 v n xs) (o : Obj) (hg : (wr.alloc o).grownBy w1 v.ownBlock) (hB : B < wr.heap.size) {x : Option Obj} (h : wr.heap[B]? = x) : w1.heap[B]? = x := by
  rw [hg.block B (by simp; omega) (fun e => by have := (hown.lt B e.symm).1; omega), Below.heap_alloc _ _ _ hB]; exact h

/-- What stands from place i on up to the second mark, and the place behind it. -/
def rdS (s : ByteArray) : Nat → Nat → Option (List UInt8 × Nat)
  | 0, _ => none
  | f + 1, i => if h : i < s.size then
      (if bt s i = 39 then (if i + 1 < s.size ∧ bt s (i + 1) = 39 then (rdS s f (i + 2)).map fun p => (39 :: p.1, p.2) else some ([], i + 1))
       else (rdS s f (i + 1)).map fun p => (s[i] :: p.1, p.2)) else none
/-- What Single answers where the first mark stands. -/
def sglV (s : ByteArray) (at' : Nat) : Value := match rdS s s.size (at' + 1) with
  | some (l, n) => gotV l at' n
  | none => .agg #[.string ⟨#[]⟩, .int .i64 0, .int .i64 3, .int .i64 s.size]
def pre (o : List UInt8) (r : Option (List UInt8 × Nat)) : Option (List UInt8 × Nat) := r.map fun p => (o ++ p.1, p.2)
theorem rdS_end (s : ByteArray) (f i : Nat) (h : s.size ≤ i) : rdS s f i = none := by
  cases f with
  | zero => rfl
  | succ f => rw [rdS, dif_neg (by omega)]
theorem rdS_stop {s : ByteArray} {f i : Nat} (h : i < s.size) (h1 : bt s i = 39) (h2 : ¬ (i + 1 < s.size ∧ bt s (i + 1) = 39)) : rdS s (f + 1) i = some ([], i + 1) := by rw [rdS, dif_pos h, if_pos h1, if_neg h2]
theorem rdS_two {s : ByteArray} {f i : Nat} (h : i < s.size) (h1 : bt s i = 39) (h2 : i + 1 < s.size) (h3 : bt s (i + 1) = 39) : rdS s (f + 1) i = pre [39] (rdS s f (i + 2)) := by rw [rdS, dif_pos h, if_pos h1, if_pos ⟨h2, h3⟩]; rfl
theorem rdS_one {s : ByteArray} {f i : Nat} (h : i < s.size) (h1 : bt s i ≠ 39) : rdS s (f + 1) i = pre [s[i]] (rdS s f (i + 1)) := by rw [rdS, dif_pos h, if_neg h1]; rfl
theorem pre_pre (o p : List UInt8) (r : Option (List UInt8 × Nat)) : pre o (pre p r) = pre (o ++ p) r := by cases r <;> simp [pre]

end Go.Proofs.YtoobbmehjpninaaGreatDoor
