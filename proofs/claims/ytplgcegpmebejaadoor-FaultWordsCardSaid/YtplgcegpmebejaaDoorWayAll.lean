/- A way in all its kinds: the law's way, the document's Of and Is, the program's Of, Words, Depth, Is. -/
import Derived.Test.YtplgcegpmebejaaDoorWay3
import Derived.Test.YtplgcegpmebejaaDoorWayOf
import Derived.Test.YtplgcegpmebejaaDoorAwake1
namespace Go.Proofs.YtplgcegpmebejaaDoor
open Go.RowKit

/-- What is at the end of a way of kind e. -/
def endv (e : Nat) (cd a : Int) : Value := if e % 3 = 1 then faultV cd a else if e % 3 = 2 then numV cd else .nilIface
/-- The fault of a way, by the document. -/
def ofr (e : Nat) (cd a : Int) (L : List (ByteArray × Int)) : Int × Int := if e % 3 = 1 then (cd, a) else if e % 3 = 2 then (cd, inn L) else (21, inn L)
theorem three (e : Nat) : (e % 3 = 0 ∧ ((e : Int) % 3) = 0) ∨ (e % 3 = 1 ∧ ((e : Int) % 3) = 1) ∨ (e % 3 = 2 ∧ ((e : Int) % 3) = 2) := by omega
theorem end_v (e : Nat) (cd a : Int) : EndV (endv e cd a) := by
  unfold endv; split
  · exact end_fault _ _
  · split
    · exact end_num _
    · exact end_nil
theorem wv_snoc (x : Value) (L : List (ByteArray × Int)) (s : ByteArray × Int) : wv x (L ++ [s]) = wv (.iface 47 (.agg #[.string s.1, .int .i64 s.2, x])) L := by
  induction L with
  | nil => rfl
  | cons t L ih => simp [wv, ih]
theorem LL_0 {W : Nat → ByteArray} {I : Nat → Int} {n' n e : Nat} {a : Int} (h : e % 3 = 0) : LL W I n' n e a = LK W I n' n ++ [(⟨#[101, 110, 100]⟩, a)] := by simp [LL, h]
theorem LL_le (W : Nat → ByteArray) (I : Nat → Int) (n' n e : Nat) (a : Int) : (LL W I n' n e a).length ≤ n + 1 := by
  unfold LL; rw [List.length_append, LK_len]; split <;> simp

theorem way_any (W : Nat → ByteArray) (I : Nat → Int) (n' n e : Nat) (cd a : Int) (hn : n ≤ 60) (q q' : Option Addr) (g h d d' N : Nat) (hN : N = (LL W I n' n e a).length) (hq : N = 0 ∨ q = some ⟨g, 0, none⟩ ∧ q' = some ⟨h, 0, none⟩) (w : World) (hR : 0 < N → RowsAt g h (LL W I n' n e a) w) :
    Calls Tryd.prog 12 #[.agg #[.slice q N d, .slice q' N d', .int .i64 ((e : Int) % 3), .int .i64 cd, .int .i64 a]] w fun x w' => x = .returned (wv (endv e cd a) (LL W I n' n e a)) ∧ Below w.heap.size w w' := by
  have hl := LL_le W I n' n e a
  rcases three e with ⟨h1, h2⟩ | ⟨h1, h2⟩ | ⟨h1, h2⟩
  · have hLL := LL_0 (W := W) (I := I) (n' := n') (n := n) (a := a) h1
    have hN' : N = n + 1 := by rw [hN, hLL]; simp [LK_len]
    subst hN'
    rw [h2, show endv e cd a = .nilIface by simp [endv, h1], hLL, wv_snoc]
    refine way_0 q q' g h d d' n cd a (LK W I n' n) (LK_len _ _ _ _) ?_ (by omega) w ?_
    · rcases hq with h0 | h0
      · omega
      · exact .inr h0
    · intro _
      obtain ⟨c1, c2, c3⟩ := hR (by omega)
      refine ⟨c1, c2, fun k s hk => c3 k s ?_⟩
      rw [hLL, List.getElem?_append_left (List.getElem?_eq_some_iff.1 hk).1]; exact hk
  · rw [h2, show endv e cd a = faultV cd a by simp [endv, h1]]
    exact way_1 q q' g h d d' N cd a _ hN.symm hq (by omega) w hR
  · rw [h2, show endv e cd a = numV cd by simp [endv, h1]]
    exact way_2 q q' g h d d' N cd a _ hN.symm hq (by omega) w hR

theorem refOf_any (e : Nat) (cd a : Int) (L : List (ByteArray × Int)) (q q' : Option Addr) (g h d d' N : Nat) (hN : N = L.length) (hN1 : N ≤ 1000) (hq : N = 0 ∨ q = some ⟨g, 0, none⟩ ∧ q' = some ⟨h, 0, none⟩) (w : World) (hR : 0 < N → RowsAt g h L w) :
    Calls Tryd.prog 10 #[.agg #[.slice q N d, .slice q' N d', .int .i64 ((e : Int) % 3), .int .i64 cd, .int .i64 a]] w fun x w' => x = .returned (.tuple #[.int .i64 (ofr e cd a L).1, .int .i64 (ofr e cd a L).2]) ∧ Below w.heap.size w w' := by
  rcases three e with ⟨h1, h2⟩ | ⟨h1, h2⟩ | ⟨h1, h2⟩
  · rw [h2, show ofr e cd a L = (21, inn L) by simp [ofr, h1]]
    exact refOf_0 q q' g h d d' N cd a L hN.symm hq hN1 w hR
  · rw [h2, show ofr e cd a L = (cd, a) by simp [ofr, h1]]
    exact refOf_1 q q' N d N d' cd a w
  · rw [h2, show ofr e cd a L = (cd, inn L) by simp [ofr, h1]]
    exact refOf_2 q q' g h d d' N cd a L hN.symm hq hN1 w hR

theorem faultOf_any (e : Nat) (cd a : Int) (L : List (ByteArray × Int)) (hL : L.length ≤ 1000) (hne : e % 3 = 0 → L ≠ []) (w : World) (hg : ErrVar w) :
    Calls Tryd.prog 11 #[wv (endv e cd a) L] w fun x w' => x = .returned (.agg #[.int .i64 (ofr e cd a L).1, .int .i64 (ofr e cd a L).2]) ∧ Below w.heap.size w w' := by
  rcases three e with ⟨h1, _⟩ | ⟨h1, _⟩ | ⟨h1, _⟩
  · rw [show ofr e cd a L = (21, inn L) by simp [ofr, h1], show endv e cd a = .nilIface by simp [endv, h1]]
    exact of_last L (hne h1) hL w hg
  · rw [show ofr e cd a L = (cd, a) by simp [ofr, h1], show endv e cd a = faultV cd a by simp [endv, h1]]
    exact of_fault cd a L w hg
  · rw [show ofr e cd a L = (cd, inn L) by simp [ofr, h1], show endv e cd a = numV cd by simp [endv, h1]]
    exact of_num cd L hL w hg
theorem LL_ne {W : Nat → ByteArray} {I : Nat → Int} {n' n e : Nat} {a : Int} (h : e % 3 = 0) : LL W I n' n e a ≠ [] := by rw [LL_0 h]; simp
theorem way_form (e : Nat) (cd a : Int) (L : List (ByteArray × Int)) (hne : e % 3 = 0 → L ≠ []) : ∃ u v, wv (endv e cd a) L = .iface u v := by
  cases L with
  | cons s L => exact ⟨_, _, rfl⟩
  | nil =>
    rcases three e with ⟨h1, _⟩ | ⟨h1, _⟩ | ⟨h1, _⟩
    · exact absurd rfl (hne h1)
    · exact ⟨_, _, by simp [endv, h1, wv, faultV]; exact ⟨rfl, rfl⟩⟩
    · exact ⟨_, _, by simp [endv, h1, wv, numV]; exact ⟨rfl, rfl⟩⟩

/-- The box of m, from the world behind 'of' on. -/
theorem box_m (w : World) (v0 v1 : Value) (E cd a : Int) : BoxAt w w.heap.size v0 v1 E cd a (w.alloc (.cells #[v0, v1, .int .i64 E, .int .i64 cd, .int .i64 a] 29)) := BoxAt.start w v0 v1 E cd a
end Go.Proofs.YtplgcegpmebejaaDoor
