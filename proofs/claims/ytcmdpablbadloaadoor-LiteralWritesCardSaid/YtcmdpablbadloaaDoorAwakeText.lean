/- The walk of Awake: the document's example. -/
import Derived.Test.YtcmdpablbadloaaDoorLines
import Derived.Test.YtcmdpablbadloaaDoorCheckP
import Derived.WalkKit
import Derived.WalkSpells
import Derived.WalkLawsBesides
import Derived.Lib.Hide
namespace Go.Proofs.YtcmdpablbadloaaDoor
open Go.RowKit

theorem lns_ex : lns 6 [97, 10, 32, 32, 98] 0 = [(0, 0, [97]), (2, 2, [98])] := by decide +kernel
theorem ck_ex : ck ⟨#[1]⟩ = (2, 0) := by decide +kernel

theorem own_cells {w : World} {base : Nat} {e : TypeId} {size n : Nat} {v : Value} {xs : List Value} (h : w.ownsRow base e size v n xs) (hn : 0 < n) :
    ∃ g cap, v = .slice (some ⟨g, 0, none⟩) n cap ∧ n ≤ cap ∧ cap ≤ maxLen ∧ base ≤ g ∧ g < w.heap.size ∧ ∀ j u, xs[j]? = some u → w.cell? ⟨g, j, none⟩ = some u := by
  have h0 := h
  rcases h.2 with ⟨_, h2⟩ | ⟨g, cap, cur, rfl, hg, hgg, hnc, hcm, _⟩
  · omega
  · refine ⟨g, cap, rfl, hnc, hcm, hg, (Array.getElem?_eq_some_iff.1 hgg).1, fun j u hj => ?_⟩
    have := World.ownsRow.cells h0 (g := g) rfl j u hj
    rwa [show (⟨g, 0, none⟩ : Addr).add j = ⟨g, j, none⟩ by simp [Addr.add, eq_comm]] at this

set_option maxRecDepth 100000 in
set_option maxHeartbeats 1000000 in
theorem awake2_any (w : World) :
    Calls Tryd.prog 24 #[] w fun e w' => e = .returned (.bool true) ∧ Below w.heap.size w w' := by
  go_enter Tryd.func24, Tryd.ntmps24
  go_wp2_with fail
  refine (lines_any ⟨#[97, 10, 32, 32, 98]⟩ _ (by decide)).mono ?_
  rintro e w1 ⟨v, rfl, hown, hb⟩
  rw [show lns ((⟨#[97, 10, 32, 32, 98]⟩ : ByteArray).size + 1) (⟨#[97, 10, 32, 32, 98]⟩ : ByteArray).data.toList 0 = [(0, 0, [97]), (2, 2, [98])] from lns_ex] at hown
  obtain ⟨g, cap, rfl, hnc, hcm, hg, hgl, hc⟩ := own_cells hown (by simp)
  have c3 : w1.cell? ⟨g, 3, none⟩ = some (.int .i64 2) := hc 3 _ rfl
  have c4 : w1.cell? ⟨g, 4, none⟩ = some (.int .i64 2) := hc 4 _ rfl
  have c5 : w1.cell? ⟨g, 5, none⟩ = some (.string ⟨#[98]⟩) := hc 5 _ rfl
  clear hc hown
  go_wp2_with fail
  refine (check_any ⟨#[1]⟩ _ (by decide)).mono ?_
  rintro e w2 ⟨rfl, hb2⟩
  rw [ck_ex]
  have hb3 : Below w.heap.size w w2 := hb.trans (hb2.mono hb.size)
  go_wp2_with fail
  refine (bad_any _ _ _).mono ?_
  rintro e w3 ⟨rfl, hb4⟩
  have hb5 : Below w.heap.size w w3 := hb3.trans (hb4.mono hb3.size)
  go_wp2
  go_ret
  exact ⟨rfl, hb5⟩
end Go.Proofs.YtcmdpablbadloaaDoor
