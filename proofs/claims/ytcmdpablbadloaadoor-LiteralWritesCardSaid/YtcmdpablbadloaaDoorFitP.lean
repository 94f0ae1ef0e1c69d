/- Plain: the document's Fits (layer 6); small laws on draws and rows of texts. -/
import Derived.Test.YtcmdpablbadloaaDoorCutR
namespace Go.Proofs.YtcmdpablbadloaaDoor
open Go.RowKit

theorem cutF_len (s : ByteArray) (f : Nat) : ∀ i b, (cutF s f i b).length ≤ f := by
  induction f with
  | zero => intro i b; simp [cutF]
  | succ f ih =>
    intro i b
    rw [cutF]
    split
    · split
      · have := ih (i + 1) (i + 1); simp; omega
      · have := ih (i + 1) b; omega
    · simp
theorem cutB_len (s : ByteArray) : (cutB s).length ≤ s.size + 1 := cutF_len s _ 0 0
theorem cutF_pos (s : ByteArray) (f : Nat) : ∀ i b, i ≤ s.size → s.size < i + f → 1 ≤ (cutF s f i b).length := by
  induction f with
  | zero => intro i b h h'; omega
  | succ f ih =>
    intro i b h h'
    rw [cutF, if_pos h]
    split
    · simp
    · rename_i hn
      exact ih (i + 1) b (by omega) (by omega)
theorem cutB_pos (s : ByteArray) : 1 ≤ (cutB s).length := cutF_pos s _ 0 0 (by omega) (by omega)
/-- Is a line one that fits? sh: what Shown answers. -/
def okL (sh : ByteArray → Bool) (b : ByteArray) : Bool := sh b && !decide (0 < b.size ∧ bt b (b.size - 1) = 32)
/-- Does a text fit? -/
def fitB (sh : ByteArray → Bool) (s : ByteArray) : Bool := !decide ((cutB s).length < 2 ∨ bt s 0 = 10 ∨ bt s 0 = 32) && (cutB s).all (okL sh)

/-- A world that is another but for draws. -/
def SD (w w' : World) : Prop := ∃ n, w' = w.drewN n
theorem SD.refl (w : World) : SD w w := ⟨0, rfl⟩
theorem SD.drew {w w' : World} (h : SD w w') : SD w w'.drew := by
  obtain ⟨n, rfl⟩ := h; exact ⟨n + 1, by simp [World.drewN, World.drew, Nat.add_assoc]⟩
theorem SD.drewN {w w' : World} (h : SD w w') (k : Nat) : SD w (w'.drewN k) := by
  obtain ⟨n, rfl⟩ := h; exact ⟨n + k, by simp⟩
theorem SD.cell {w w' : World} (h : SD w w') (a : Addr) : w'.cell? a = w.cell? a := by
  obtain ⟨n, rfl⟩ := h; rfl
theorem SD.below {w w' : World} (h : SD w w') {B : Nat} {u : World} (hb : Below B u w) : Below B u w' := by
  obtain ⟨n, rfl⟩ := h; exact bel_drewN hb n
theorem own_cellsS {w : World} {base : Nat} {v : Value} {L : List ByteArray} (h : w.ownsRow base 9 1 v L.length (sv L)) (hn : 0 < L.length) :
    ∃ g cap, v = .slice (some ⟨g, 0, none⟩) L.length cap ∧ L.length ≤ cap ∧ cap ≤ maxLen ∧ base ≤ g ∧ g < w.heap.size ∧ ∀ j b, L[j]? = some b → w.cell? ⟨g, j, none⟩ = some (.string b) := by
  have h0 := h
  rcases h.2 with ⟨_, h2⟩ | ⟨g, cap, cur, rfl, hg, hgg, hnc, hcm, _⟩
  · omega
  · refine ⟨g, cap, rfl, hnc, hcm, hg, (Array.getElem?_eq_some_iff.1 hgg).1, fun j b hj => ?_⟩
    have := World.ownsRow.cells h0 (g := g) rfl j (.string b) (by simp [sv, hj])
    rwa [show (⟨g, 0, none⟩ : Addr).add j = ⟨g, j, none⟩ by simp [Addr.add, eq_comm]] at this
end Go.Proofs.YtcmdpablbadloaaDoor
