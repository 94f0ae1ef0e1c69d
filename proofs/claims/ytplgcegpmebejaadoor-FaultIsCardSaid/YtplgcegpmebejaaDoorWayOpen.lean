/- The law's struct argument opened: two slices and three numbers. -/
import Derived.Test.YtplgcegpmebejaaDoorWayMid
import Derived.Lib.SmallJoins
import Derived.SliceStrings
import Derived.ChangeSlices
import Derived.ChangeArms
namespace Go.Proofs.YtplgcegpmebejaaDoor
open Go.Joins Go.ChangeShapes Go.WideShapes Go.RowKit Go.Deep
theorem u8_range {n : Int} (h : (Lit.int .u8 n).wf = true) : 0 ≤ n ∧ n < 256 := by
  have h8 : IntKind.u8.min = 0 ∧ IntKind.u8.max = 255 := by decide
  simp [Lit.wf, h8.1, h8.2] at h; omega
section
variable {H : Type} {enc : TypeId × Value → H} {P : Program} {w : World} {base : Nat} {spare : Nat → Bool} {held : Bool}
theorem open_agg5 {r : Reach} {b0 : Nat} {t : TypeId} {f0 f1 f2 f3 f4 : Field} {v : Value} {d : DataW H} {p : List MemPlace} (hs : P.underlying t = some (.struct #[f0, f1, f2, f3, f4])) (hone : oneCellFields P #[f0, f1, f2, f3, f4] = true) (hC : P.cellsOf t = 5)
    (hv : Value.okWide P w r b0 t v) (h : DataW.Trod enc P w base spare held t v d p) :
    ∃ (v0 v1 v2 v3 v4 : Value) (y0 y1 y2 y3 y4 : DataW H × List MemPlace) (n : Nat), v = .agg #[v0, v1, v2, v3, v4] ∧ d = .agg [y0.1, y1.1, y2.1, y3.1, y4.1] ∧ p = y0.2 ++ (y1.2 ++ (y2.2 ++ (y3.2 ++ y4.2))) ∧
      DataW.trod enc P w base spare held n f0.type [v0] = some y0 ∧ DataW.trod enc P w base spare held n f1.type [v1] = some y1 ∧ DataW.trod enc P w base spare held n f2.type [v2] = some y2 ∧ DataW.trod enc P w base spare held n f3.type [v3] = some y3 ∧ DataW.trod enc P w base spare held n f4.type [v4] = some y4 := by
  obtain ⟨cs, rfl, hsz⟩ := okWide_struct hs hv
  obtain ⟨l⟩ := cs
  match l, hsz.trans hC with
  | [c0, c1, c2, c3, c4], _ =>
    obtain ⟨fuel, hf⟩ := h
    obtain ⟨xs, n, _, hx, _, hlen, hg⟩ := DataW.trod_struct hs hf
    obtain ⟨o0, k0⟩ := hone_of hone 0 f0 rfl
    obtain ⟨o1, k1⟩ := hone_of hone 1 f1 rfl
    obtain ⟨o2, k2⟩ := hone_of hone 2 f2 rfl
    obtain ⟨o3, k3⟩ := hone_of hone 3 f3 rfl
    obtain ⟨o4, k4⟩ := hone_of hone 4 f4 rfl
    match xs, hlen with
    | [y0, y1, y2, y3, y4], _ =>
      simp only [Prod.mk.injEq] at hx
      exact ⟨c0, c1, c2, c3, c4, y0, y1, y2, y3, y4, n, rfl, by simpa using hx.1, by simpa using hx.2, by simpa [Value.cells, o0, k0] using hg 0 f0 rfl, by simpa [Value.cells, o1, k1] using hg 1 f1 rfl, by simpa [Value.cells, o2, k2] using hg 2 f2 rfl, by simpa [Value.cells, o3, k3] using hg 3 f3 rfl, by simpa [Value.cells, o4, k4] using hg 4 f4 rfl⟩

theorem way_words {t e : TypeId} {m : Nat} {v : Value} {x : DataW H × List MemPlace} (ht : P.underlying t = some (.slice e)) (he : P.underlying e = some .string) (hc : P.cellsOf e = 1)
    (h : DataW.trod enc P w base spare held m t [v] = some x) : ∃ (r : Option Addr) (n c : Nat) (W : Nat → ByteArray), [v] = [.slice r n c] ∧ n ≤ maxLen ∧ ArgW r n W w := by
  rcases open_strings ht he hc h with ⟨h1, _⟩ | ⟨a, len, cap, ss, h1, _, hl, hm, hlen, _, hcell, _⟩
  · exact ⟨none, 0, 0, fun _ => ByteArray.empty, h1, Nat.zero_le _, fun k hk => absurd hk (by omega)⟩
  · refine ⟨some a, len, cap, fun i => ss.getD i ByteArray.empty, h1, by omega, fun k hk => ⟨a, rfl, ?_, ?_⟩⟩
    · exact World.block_lt_of_cell? w _ (hcell k (by rw [hlen]; split <;> omega))
    · exact hcell k (by rw [hlen]; split <;> omega)
theorem way_ints {t e : TypeId} {m : Nat} {v : Value} {x : DataW H × List MemPlace} (ht : P.underlying t = some (.slice e)) (he : P.underlying e = some (.int .i64)) (hc : P.cellsOf e = 1)
    (h : DataW.trod enc P w base spare held m t [v] = some x) : ∃ (r : Option Addr) (n c : Nat) (I : Nat → Int), [v] = [.slice r n c] ∧ n ≤ maxLen ∧ ArgI r n I w := by
  rcases open_ints ht he hc h with ⟨h1, _⟩ | ⟨a, len, cap, zs, h1, _, hl, hm, hlen, _, hcell, _⟩
  · exact ⟨none, 0, 0, fun _ => 0, h1, Nat.zero_le _, fun k hk => absurd hk (by omega)⟩
  · refine ⟨some a, len, cap, fun i => zs.getD i 0, h1, by omega, fun k hk => ⟨a, rfl, ?_, ?_⟩⟩
    · exact World.block_lt_of_cell? w _ (hcell k (by rw [hlen]; split <;> omega))
    · exact hcell k (by rw [hlen]; split <;> omega)
end
end Go.Proofs.YtplgcegpmebejaaDoor
