/- Small laws of the walks of Write (layer 6). -/
import Derived.Test.YtcmdpablbadloaaDoorLit
import Derived.Test.YtcmdpablbadloaaDoorCutR
import Derived.Test.YtcmdpablbadloaaDoorBlk
namespace Go.Proofs.YtcmdpablbadloaaDoor
open Go.RowKit

/-- The indentation that a text is written by. -/
def ind (i : Int) : Nat := if i < 0 then 0 else if 1000 < i then 1000 else i.toNat
theorem ind_le (i : Int) : ind i ≤ 1000 := by
  unfold ind
  split
  · omega
  · split <;> omega
theorem ind_lo {i : Int} (h : i < 0) : ind i = 0 := by unfold ind; rw [if_pos h]
theorem ind_hi {i : Int} (h : 1000 < i) : ind i = 1000 := by unfold ind; rw [if_neg (by omega), if_pos h]
theorem ind_mid {i : Int} (h : 0 ≤ i) (h2 : i ≤ 1000) : ((ind i : Nat) : Int) = i := by unfold ind; rw [if_neg (by omega), if_neg (by omega)]; omega

theorem own_mono {w : World} {B B' e size n : Nat} {v : Value} {xs : List Value} (h : w.ownsRow B e size v n xs) (hB : B' ≤ B) : w.ownsRow B' e size v n xs := by
  refine ⟨h.1, ?_⟩
  rcases h.2 with hn | ⟨g, cap, cur, rfl, hg, rest⟩
  · exact .inl hn
  · exact .inr ⟨g, cap, cur, rfl, Nat.le_trans hB hg, rest⟩
/-- The row of lines as it stands, and the line that is read. -/
def RwW (w1 : World) (g k : Nat) (b : ByteArray) (v : Value) (xs : List Value) (w' : World) : Prop :=
  w'.cell? ⟨g, k, none⟩ = some (.string b) ∧ w'.ownsRow w1.heap.size 9 1 v k xs ∧ Below w1.heap.size w1 w'
theorem RwW.drew {w1 : World} {g k : Nat} {b : ByteArray} {v : Value} {xs : List Value} {w' : World} (h : RwW w1 g k b v xs w') : RwW w1 g k b v xs w'.drew := ⟨h.1, h.2.1, h.2.2.drew⟩
theorem RwW.keep {w1 : World} {g k : Nat} {b : ByteArray} {v : Value} {xs : List Value} {W w' : World} (h : RwW w1 g k b v xs W) (hg : g < w1.heap.size) (hb : Below W.heap.size W w') : RwW w1 g k b v xs w' := by
  have := h.2.2.size
  exact ⟨(hb.cell (p := ⟨g, k, none⟩) (show g < _ by omega)).trans h.1, own_below h.2.1 hb, h.2.2.trans (hb.mono h.2.2.size)⟩
theorem blanks_rw {w1 : World} {g k : Nat} {b : ByteArray} {v : Value} {xs : List Value} (n : Nat) (hn : n ≤ 100000) (hg : g < w1.heap.size) (W : World) (h : RwW w1 g k b v xs W) :
    Calls Tryd.prog 18 #[.int .i64 n] W fun e w' => e = .returned (.string ⟨(blk n).toArray⟩) ∧ RwW w1 g k b v xs w' :=
  (blanks_any n W hn).mono fun _ _ ⟨h1, h2⟩ => ⟨h1, h.keep hg h2⟩
theorem rwc_alloc {w1 : World} {g k : Nat} {b : ByteArray} {W : World} (hg : g < w1.heap.size) (h : W.cell? ⟨g, k, none⟩ = some (.string b) ∧ Below w1.heap.size w1 W) (o : Obj) : (W.alloc o).cell? ⟨g, k, none⟩ = some (.string b) ∧ Below w1.heap.size w1 (W.alloc o) := by
  have := h.2.size
  exact ⟨(((Below.refl _ _).alloc (Nat.le_refl _) o).cell (p := ⟨g, k, none⟩) (show g < _ by omega)).trans h.1, h.2.alloc h.2.size o⟩
end Go.Proofs.YtcmdpablbadloaaDoor
