/- The walk of the law's same (layer 7): two rows of the same tokens. -/
import Derived.Test.YtnnnanemefcmdaaGreatDoorZL3a
import Derived.Deep.RegionHeld3
import Derived.Deep.RegionWith
namespace Go.Proofs.YtnnnanemefcmdaaGreatDoor
open Go.RowKit

/-- One token of each row, as they lie; below them all is as it was. -/
def Sm (w0 : World) (g h j : Nat) (k a : Int) (t : ByteArray) (w' : World) : Prop :=
  w'.cell? ⟨g, j, none⟩ = some (.int .i64 k) ∧ w'.cell? ⟨g, j + 1, none⟩ = some (.int .i64 a) ∧ w'.cell? ⟨g, j + 2, none⟩ = some (.string t) ∧ w'.cell? ⟨h, j, none⟩ = some (.int .i64 k) ∧ w'.cell? ⟨h, j + 1, none⟩ = some (.int .i64 a) ∧ w'.cell? ⟨h, j + 2, none⟩ = some (.string t) ∧ g < w'.heap.size ∧ h < w'.heap.size ∧ Below w0.heap.size w0 w'
theorem Sm.keep {w0 : World} {g h j : Nat} {k a : Int} {t : ByteArray} {W w' : World} (hS : Sm w0 g h j k a t W) (hb : Below W.heap.size W w') : Sm w0 g h j k a t w' := by
  obtain ⟨h0, h1, h2, h3, h4, h5, h6, h7, h8⟩ := hS
  have hz := hb.size
  exact ⟨(hb.cell (p := ⟨g, j, none⟩) h6).trans h0, (hb.cell (p := ⟨g, j + 1, none⟩) h6).trans h1, (hb.cell (p := ⟨g, j + 2, none⟩) h6).trans h2, (hb.cell (p := ⟨h, j, none⟩) h7).trans h3, (hb.cell (p := ⟨h, j + 1, none⟩) h7).trans h4, (hb.cell (p := ⟨h, j + 2, none⟩) h7).trans h5, by omega, by omega, h8.trans (hb.mono h8.size)⟩
theorem scalar_sm {w0 : World} {g h j : Nat} {a : Int} {t : ByteArray} (k : Nat) (b : Bool) (hb : sclB k = b) (W : World) (hS : Sm w0 g h j k a t W) :
    Calls Tryz.prog 15 #[.agg #[.int .i64 (k : Nat), .int .i64 a, .string t]] W fun e w' => e = .returned (.bool b) ∧ Sm w0 g h j k a t w' :=
  (scalar_any k a t W).mono fun _ _ ⟨h1, h2⟩ => ⟨by rw [h1, hb], hS.keep h2⟩
theorem tkR_cells (base : Int) (toks : List Tk) (m k a : Nat) (t : List UInt8) (h : toks[m]? = some (k, a, t)) : (toks.flatMap (tkR base))[m * 3]? = some (.int .i64 (k : Nat)) ∧ (toks.flatMap (tkR base))[m * 3 + 1]? = some (.int .i64 ((a : Nat) + base)) ∧ (toks.flatMap (tkR base))[m * 3 + 2]? = some (.string ⟨t.toArray⟩) := by
  obtain ⟨hl, he⟩ := List.getElem?_eq_some_iff.1 h
  have hs : toks = toks.take m ++ (k, a, t) :: toks.drop (m + 1) := by rw [← he, ← List.drop_eq_getElem_cons hl, List.take_append_drop]
  have hlen : ((toks.take m).flatMap (tkR base)).length = m * 3 := by rw [flat3R, List.length_take]; omega
  have hf : toks.flatMap (tkR base) = (toks.take m).flatMap (tkR base) ++ (tkR base (k, a, t) ++ (toks.drop (m + 1)).flatMap (tkR base)) := by
    conv => lhs; rw [hs]
    rw [List.flatMap_append, List.flatMap_cons]
  rw [hf]
  refine ⟨?_, ?_, ?_⟩
  · rw [List.getElem?_append_right (by omega), hlen, Nat.sub_self]; rfl
  · rw [List.getElem?_append_right (by omega), hlen, show m * 3 + 1 - m * 3 = 1 by omega]; rfl
  · rw [List.getElem?_append_right (by omega), hlen, show m * 3 + 2 - m * 3 = 2 by omega]; rfl
set_option maxRecDepth 100000 in
set_option maxHeartbeats 8000000 in
theorem same_any (toks : List Tk) (base : Int) (B1 B2 : Nat) (l m : Value) (w : World) (h1 : w.ownsRow B1 38 3 l toks.length (toks.flatMap (tkR base))) (h2 : w.ownsRow B2 41 3 m toks.length (toks.flatMap (tkR base))) :
    Calls Tryz.prog 11 #[l, m] w fun e w' => e = .returned (.bool true) ∧ Below w.heap.size w w' := by
  obtain ⟨n, hn⟩ : ∃ n, toks.length = n := ⟨_, rfl⟩
  by_cases h0 : n = 0
  · rw [hn, h0] at h1 h2
    obtain ⟨r1, c1, rfl⟩ := own_nil3 h1
    obtain ⟨r2, c2, rfl⟩ := own_nil3 h2
    have hz : ((0 : Nat) : Int) = 0 := rfl
    clear h1 h2 hn h0
    go_enter Tryz.func11, Tryz.ntmps11
    go_wp2
    go_loopw [13] (fun j wr => j = .int .i64 0 ∧ w = wr) (fun _ _ => 0)
    case atStart => exact ⟨rfl, rfl⟩
    case round =>
      obtain ⟨rfl, rfl⟩ := hrel
      go_wp2
      go_ret
      exact ⟨rfl, Below.refl _ _⟩
  · rw [hn] at h1 h2
    obtain ⟨g, c1, rfl, hn1, hm1, _, hg, hc⟩ := own_cells h1 (by omega)
    obtain ⟨h, c2, rfl, hn2, hm2, _, hh, hd⟩ := own_cells h2 (by omega)
    unfold maxLen at hm1 hm2
    have HC := Lib.hid hc
    have HD := Lib.hid hd
    have HN := Lib.hid hn
    clear h1 h2 hc hd hn
    go_enter Tryz.func11, Tryz.ntmps11
    go_wp2
    go_loopw [13] (fun j wr => ∃ i : Nat, j = .int .i64 i ∧ i ≤ n ∧ Below w.heap.size w wr) (fun j _ => n - (intOf j).toNat)
    case atStart => exact ⟨0, rfl, by omega, Below.refl _ _⟩
    case round =>
      obtain ⟨i, rfl, hi, hb⟩ := hrel
      by_cases hlt : i < n
      · obtain ⟨⟨k, a, t⟩, hx⟩ : ∃ x, toks[i]? = some x := ⟨_, List.getElem?_eq_getElem (by rw [HN.out]; exact hlt)⟩
        obtain ⟨x0, x1, x2⟩ := tkR_cells base toks i k a t hx
        have hz := hb.size
        have hS : Sm w g h (i * 3) (k : Nat) ((a : Nat) + base) ⟨t.toArray⟩ wr := ⟨(hb.cell (p := ⟨g, i * 3, none⟩) hg).trans (HC.out _ _ x0), (hb.cell (p := ⟨g, i * 3 + 1, none⟩) hg).trans (HC.out _ _ x1), (hb.cell (p := ⟨g, i * 3 + 2, none⟩) hg).trans (HC.out _ _ x2), (hb.cell (p := ⟨h, i * 3, none⟩) hh).trans (HD.out _ _ x0), (hb.cell (p := ⟨h, i * 3 + 1, none⟩) hh).trans (HD.out _ _ x1), (hb.cell (p := ⟨h, i * 3 + 2, none⟩) hh).trans (HD.out _ _ x2), by omega, by omega, hb⟩
        have HS := Lib.hid hS
        have y1 : (0 : Int) ≤ (i : Int) := by omega
        have y2 : (i : Int) < (n : Int) := by omega
        obtain ⟨A, hA⟩ : ∃ A : Int, (a : Nat) + base = A := ⟨_, rfl⟩
        rw [hA] at HS
        clear hS hx x0 x1 x2 hA hb
        have hkc : k = 11 ∨ (k ≠ 11 ∧ k = 12) ∨ (k ≠ 11 ∧ k ≠ 12) := by omega
        rcases hkc with hk | ⟨hk, hk2⟩ | ⟨hk, hk2⟩
        · have hs : sclB k = true := by unfold sclB; rw [decide_eq_true hk]; rfl
          have q1 : ((k : Int) == 11) = true := by simp only [beq_iff_eq]; omega
          have HSC := Lib.hid hs
          clear hk hs
          go_wp2_with fail
          have hS0 : Sm w g h (i * 3) (k : Nat) A ⟨t.toArray⟩ wr.drew := HS.out.keep (Below.refl _ _).drew
          refine wp_region_held (S := Sm w g h (i * 3) (k : Nat) A ⟨t.toArray⟩) (by kernel_rfl) ?_
          change wpAnyH _ _ _ _ _ _ _ _ wr.drew
          refine wpAnyH_take (i := 0) (v := ?v0) rfl (by kernel_rfl) (by kernel_rfl) (by kernel_rfl) (fun _ _ _ h => h) (Or.inl ⟨by kernel_rfl, ?hy0⟩) hS0 ?rest0
          case hy0 => rintro w5 ⟨z0, z1, z2, z3, z4, z5, z6, z7, z8⟩; go_simp; try with_reducible rfl
          try simp only [Act.put, List.getElem_toArray, List.getElem_cons_zero, List.setIfInBounds_toArray, List.set_cons_zero, List.set_cons_succ]
          refine wpAnyH_take (i := 1) (v := ?v1) rfl (by kernel_rfl) (by kernel_rfl) (by kernel_rfl) (fun _ _ _ h => h) (Or.inl ⟨by kernel_rfl, ?hy1⟩) hS0 ?rest1
          case hy1 => rintro w5 ⟨z0, z1, z2, z3, z4, z5, z6, z7, z8⟩; go_simp; try with_reducible rfl
          try simp only [Act.put, List.getElem_toArray, List.getElem_cons_succ, List.getElem_cons_zero, List.setIfInBounds_toArray, List.set_cons_zero, List.set_cons_succ]
          refine wpAnyH_take (i := 2) (v := ?v2) rfl (by kernel_rfl) (by kernel_rfl) (by kernel_rfl) (fun _ _ _ h => h) (Or.inl ⟨by kernel_rfl, ?hy2⟩) hS0 ?rest2
          case hy2 => rintro w5 ⟨z0, z1, z2, z3, z4, z5, z6, z7, z8⟩; go_simp; try with_reducible rfl
          try simp only [Act.put, List.getElem_toArray, List.getElem_cons_succ, List.getElem_cons_zero, List.setIfInBounds_toArray, List.set_cons_zero, List.set_cons_succ]
          refine wpAnyH_take (i := 3) (v := ?v3) rfl (by kernel_rfl) (by kernel_rfl) (by kernel_rfl) (fun _ _ _ h => h) (Or.inl ⟨by kernel_rfl, ?hy3⟩) hS0 ?rest3
          case hy3 => rintro w5 ⟨z0, z1, z2, z3, z4, z5, z6, z7, z8⟩; go_simp; try with_reducible rfl
          try simp only [Act.put, List.getElem_toArray, List.getElem_cons_succ, List.getElem_cons_zero, List.setIfInBounds_toArray, List.set_cons_zero, List.set_cons_succ]
          refine wpAnyH_take (i := 4) (v := ?v4) rfl (by kernel_rfl) (by kernel_rfl) (by kernel_rfl) (fun _ _ _ h => h) (Or.inl ⟨by kernel_rfl, ?hy4⟩) hS0 ?rest4
          case hy4 => rintro w5 ⟨z0, z1, z2, z3, z4, z5, z6, z7, z8⟩; go_simp; try with_reducible rfl
          try simp only [Act.put, List.getElem_toArray, List.getElem_cons_succ, List.getElem_cons_zero, List.setIfInBounds_toArray, List.set_cons_zero, List.set_cons_succ]
          refine wpAnyH_take (i := 5) (v := ?v5) rfl (by kernel_rfl) (by kernel_rfl) (by kernel_rfl) (fun _ _ _ h => h) (Or.inl ⟨by kernel_rfl, ?hy5⟩) hS0 ?rest5
          case hy5 => rintro w5 ⟨z0, z1, z2, z3, z4, z5, z6, z7, z8⟩; go_simp; try with_reducible rfl
          try simp only [Act.put, List.getElem_toArray, List.getElem_cons_succ, List.getElem_cons_zero, List.setIfInBounds_toArray, List.set_cons_zero, List.set_cons_succ]
          refine wpAnyH_take (i := 6) (v := ?v6) rfl (by kernel_rfl) (by kernel_rfl) (by kernel_rfl) (fun _ _ _ h => h) (Or.inl ⟨by kernel_rfl, ?hy6⟩) hS0 ?rest6
          case hy6 => rintro w5 ⟨z0, z1, z2, z3, z4, z5, z6, z7, z8⟩; go_simp; try with_reducible rfl
          try simp only [Act.put, List.getElem_toArray, List.getElem_cons_succ, List.getElem_cons_zero, List.setIfInBounds_toArray, List.set_cons_zero, List.set_cons_succ]
          refine wpAnyH_take (i := 7) (v := ?v7) rfl (by kernel_rfl) (by kernel_rfl) (by kernel_rfl) (fun _ _ _ h => h) (Or.inl ⟨by kernel_rfl, ?hy7⟩) hS0 ?rest7
          case hy7 => rintro w5 ⟨z0, z1, z2, z3, z4, z5, z6, z7, z8⟩; go_simp; try with_reducible rfl
          try simp only [Act.put, List.getElem_toArray, List.getElem_cons_succ, List.getElem_cons_zero, List.setIfInBounds_toArray, List.set_cons_zero, List.set_cons_succ]
          refine wpAnyH_take (i := 8) (v := ?v8) rfl (by kernel_rfl) (by kernel_rfl) (by kernel_rfl) (fun _ _ _ h => h) (Or.inl ⟨by kernel_rfl, ?hy8⟩) hS0 ?rest8
          case hy8 => rintro w5 ⟨z0, z1, z2, z3, z4, z5, z6, z7, z8⟩; go_simp; try with_reducible rfl
          try simp only [Act.put, List.getElem_toArray, List.getElem_cons_succ, List.getElem_cons_zero, List.setIfInBounds_toArray, List.set_cons_zero, List.set_cons_succ]
          refine wpAnyH_take (i := 9) (v := ?v9) rfl (by kernel_rfl) (by kernel_rfl) (by kernel_rfl) (fun _ _ _ h => h) (Or.inl ⟨by kernel_rfl, ?hy9⟩) hS0 ?rest9
          case hy9 => rintro w5 ⟨z0, z1, z2, z3, z4, z5, z6, z7, z8⟩; go_simp; try with_reducible rfl
          try simp only [Act.put, List.getElem_toArray, List.getElem_cons_succ, List.getElem_cons_zero, List.setIfInBounds_toArray, List.set_cons_zero, List.set_cons_succ]
          refine wpAnyH_take (i := 10) (v := ?v10) rfl (by kernel_rfl) (by kernel_rfl) (by kernel_rfl) (fun _ _ _ h => h) (Or.inl ⟨by kernel_rfl, ?hy10⟩) hS0 ?rest10
          case hy10 => rintro w5 ⟨z0, z1, z2, z3, z4, z5, z6, z7, z8⟩; go_simp; try with_reducible rfl
          try simp only [Act.put, List.getElem_toArray, List.getElem_cons_succ, List.getElem_cons_zero, List.setIfInBounds_toArray, List.set_cons_zero, List.set_cons_succ]
          refine wpAnyH_take (i := 11) (v := ?v11) rfl (by kernel_rfl) (by kernel_rfl) (by kernel_rfl) (fun _ _ _ h => h) (Or.inl ⟨by kernel_rfl, ?hy11⟩) hS0 ?rest11
          case hy11 => rintro w5 ⟨z0, z1, z2, z3, z4, z5, z6, z7, z8⟩; go_simp; try with_reducible rfl
          try simp only [Act.put, List.getElem_toArray, List.getElem_cons_succ, List.getElem_cons_zero, List.setIfInBounds_toArray, List.set_cons_zero, List.set_cons_succ]
          refine wpAnyH_take (i := 12) (v := ?v12) rfl (by kernel_rfl) (by kernel_rfl) (by kernel_rfl) (fun _ _ _ h => h) (Or.inl ⟨by kernel_rfl, ?hy12⟩) hS0 ?rest12
          case hy12 => rintro w5 ⟨z0, z1, z2, z3, z4, z5, z6, z7, z8⟩; go_simp; try with_reducible rfl
          try simp only [Act.put, List.getElem_toArray, List.getElem_cons_succ, List.getElem_cons_zero, List.setIfInBounds_toArray, List.set_cons_zero, List.set_cons_succ]
          refine wpAnyH_take (i := 13) (v := ?v13) rfl (by kernel_rfl) (by kernel_rfl) (by kernel_rfl) (fun _ _ _ h => h) (Or.inl ⟨by kernel_rfl, ?hy13⟩) hS0 ?rest13
          case hy13 => rintro w5 ⟨z0, z1, z2, z3, z4, z5, z6, z7, z8⟩; go_simp; try with_reducible rfl
          try simp only [Act.put, List.getElem_toArray, List.getElem_cons_succ, List.getElem_cons_zero, List.setIfInBounds_toArray, List.set_cons_zero, List.set_cons_succ]
          refine wpAnyH_take (i := 15) (v := ?v15) rfl (by kernel_rfl) (by kernel_rfl) (by kernel_rfl) (fun _ _ _ h => h) (Or.inl ⟨by kernel_rfl, ?hy15⟩) hS0 ?rest15
          case hy15 => rintro w5 ⟨z0, z1, z2, z3, z4, z5, z6, z7, z8⟩; go_simp; try with_reducible rfl
          try simp only [Act.put, List.getElem_toArray, List.getElem_cons_succ, List.getElem_cons_zero, List.setIfInBounds_toArray, List.set_cons_zero, List.set_cons_succ]
          refine wpAnyH_take (i := 16) (v := ?v16) rfl (by kernel_rfl) (by kernel_rfl) (by kernel_rfl) (fun _ _ _ h => h) (Or.inl ⟨by kernel_rfl, ?hy16⟩) hS0 ?rest16
          case hy16 => rintro w5 ⟨z0, z1, z2, z3, z4, z5, z6, z7, z8⟩; go_simp; try with_reducible rfl
          try simp only [Act.put, List.getElem_toArray, List.getElem_cons_succ, List.getElem_cons_zero, List.setIfInBounds_toArray, List.set_cons_zero, List.set_cons_succ]
          refine wpAnyH_take (i := 17) (v := ?v17) rfl (by kernel_rfl) (by kernel_rfl) (by kernel_rfl) (fun _ _ _ h => h) (Or.inl ⟨by kernel_rfl, ?hy17⟩) hS0 ?rest17
          case hy17 => rintro w5 ⟨z0, z1, z2, z3, z4, z5, z6, z7, z8⟩; go_simp; try with_reducible rfl
          try simp only [Act.put, List.getElem_toArray, List.getElem_cons_succ, List.getElem_cons_zero, List.setIfInBounds_toArray, List.set_cons_zero, List.set_cons_succ]
          refine wpAnyH_take (i := 18) (v := ?v18) rfl (by kernel_rfl) (by kernel_rfl) (by kernel_rfl) (fun _ _ _ h => h) (Or.inl ⟨by kernel_rfl, ?hy18⟩) hS0 ?rest18
          case hy18 => rintro w5 ⟨z0, z1, z2, z3, z4, z5, z6, z7, z8⟩; go_simp; try with_reducible rfl
          try simp only [Act.put, List.getElem_toArray, List.getElem_cons_succ, List.getElem_cons_zero, List.setIfInBounds_toArray, List.set_cons_zero, List.set_cons_succ]
          refine wpAnyH_take (i := 19) (v := ?v19) rfl (by kernel_rfl) (by kernel_rfl) (by kernel_rfl) (fun _ _ _ h => h) (Or.inl ⟨by kernel_rfl, ?hy19⟩) hS0 ?rest19
          case hy19 => rintro w5 ⟨z0, z1, z2, z3, z4, z5, z6, z7, z8⟩; go_simp; try with_reducible rfl
          try simp only [Act.put, List.getElem_toArray, List.getElem_cons_succ, List.getElem_cons_zero, List.setIfInBounds_toArray, List.set_cons_zero, List.set_cons_succ]
          refine wpAnyH_take (i := 20) (v := ?v20) rfl (by kernel_rfl) (by kernel_rfl) (by kernel_rfl) (fun _ _ _ h => h) (Or.inl ⟨by kernel_rfl, ?hy20⟩) hS0 ?rest20
          case hy20 => rintro w5 ⟨z0, z1, z2, z3, z4, z5, z6, z7, z8⟩; go_simp; try with_reducible rfl
          try simp only [Act.put, List.getElem_toArray, List.getElem_cons_succ, List.getElem_cons_zero, List.setIfInBounds_toArray, List.set_cons_zero, List.set_cons_succ]
          refine wpAnyH_ready (rs := [14]) (by kernel_rfl) (by simp) ?_
          refine AllReadyH.cons rfl (fun K hK => ?_) ?_
          · go_simp
            refine (scalar_sm (w0 := w) (g := g) (h := h) (j := i * 3) (a := A) (t := ⟨t.toArray⟩) k true HSC.out _ hS0).mono ?_
            rintro e w' ⟨rfl, hs'⟩
            go_wp2_with fail
            refine hK.out _ _ hs' (fun _ => ?_)
            clear hK K
            try simp only [Act.put, List.getElem_toArray, List.getElem_cons_succ, List.getElem_cons_zero, List.setIfInBounds_toArray, List.set_cons_zero, List.set_cons_succ]
            refine wpAnyH_take (i := 21) (v := ?v21) rfl (by kernel_rfl) (by kernel_rfl) (by kernel_rfl) (fun _ _ _ h => h) (Or.inl ⟨by kernel_rfl, ?hy21⟩) hs' ?rest21
            case hy21 => rintro w5 ⟨z0, z1, z2, z3, z4, z5, z6, z7, z8⟩; go_simp; try with_reducible rfl
            try simp only [Act.put, List.getElem_toArray, List.getElem_cons_succ, List.getElem_cons_zero, List.setIfInBounds_toArray, List.set_cons_zero, List.set_cons_succ]
            refine wpAnyH_take (i := 22) (v := undef) rfl (by kernel_rfl) (by kernel_rfl) (by kernel_rfl) (fun _ _ _ h => h) (Or.inr ⟨by kernel_rfl, rfl⟩) hs' ?_
            try simp only [Act.put, List.getElem_toArray, List.getElem_cons_succ, List.getElem_cons_zero, List.setIfInBounds_toArray, List.set_cons_zero, List.set_cons_succ]
            refine wpAnyH_take (i := 23) (v := undef) rfl (by kernel_rfl) (by kernel_rfl) (by kernel_rfl) (fun _ _ _ h => h) (Or.inr ⟨by kernel_rfl, rfl⟩) hs' ?_
            try simp only [Act.put, List.getElem_toArray, List.getElem_cons_succ, List.getElem_cons_zero, List.setIfInBounds_toArray, List.set_cons_zero, List.set_cons_succ]
            refine wpAnyH_take (i := 24) (v := undef) rfl (by kernel_rfl) (by kernel_rfl) (by kernel_rfl) (fun _ _ _ h => h) (Or.inr ⟨by kernel_rfl, rfl⟩) hs' ?_
            try simp only [Act.put, List.getElem_toArray, List.getElem_cons_succ, List.getElem_cons_zero, List.setIfInBounds_toArray, List.set_cons_zero, List.set_cons_succ]
            refine wpAnyH_take (i := 25) (v := undef) rfl (by kernel_rfl) (by kernel_rfl) (by kernel_rfl) (fun _ _ _ h => h) (Or.inr ⟨by kernel_rfl, rfl⟩) hs' ?_
            try simp only [Act.put, List.getElem_toArray, List.getElem_cons_succ, List.getElem_cons_zero, List.setIfInBounds_toArray, List.set_cons_zero, List.set_cons_succ]
            refine wpAnyH_take (i := 26) (v := undef) rfl (by kernel_rfl) (by kernel_rfl) (by kernel_rfl) (fun _ _ _ h => h) (Or.inr ⟨by kernel_rfl, rfl⟩) hs' ?_
            try simp only [Act.put, List.getElem_toArray, List.getElem_cons_succ, List.getElem_cons_zero, List.setIfInBounds_toArray, List.set_cons_zero, List.set_cons_succ]
            refine wpAnyH_take (i := 27) (v := undef) rfl (by kernel_rfl) (by kernel_rfl) (by kernel_rfl) (fun _ _ _ h => h) (Or.inr ⟨by kernel_rfl, rfl⟩) hs' ?_
            try simp only [Act.put, List.getElem_toArray, List.getElem_cons_succ, List.getElem_cons_zero, List.setIfInBounds_toArray, List.set_cons_zero, List.set_cons_succ]
            refine wpAnyH_take (i := 28) (v := ?v28) rfl (by kernel_rfl) (by kernel_rfl) (by kernel_rfl) (fun _ _ _ h => h) (Or.inl ⟨by kernel_rfl, ?hy28⟩) hs' ?rest28
            case hy28 => rintro w5 ⟨z0, z1, z2, z3, z4, z5, z6, z7, z8⟩; go_simp; try with_reducible rfl
            try simp only [Act.put, List.getElem_toArray, List.getElem_cons_succ, List.getElem_cons_zero, List.setIfInBounds_toArray, List.set_cons_zero, List.set_cons_succ]
            refine wpAnyH_take (i := 29) (v := ?v29) rfl (by kernel_rfl) (by kernel_rfl) (by kernel_rfl) (fun _ _ _ h => h) (Or.inl ⟨by kernel_rfl, ?hy29⟩) hs' ?rest29
            case hy29 => rintro w5 ⟨z0, z1, z2, z3, z4, z5, z6, z7, z8⟩; go_simp; try with_reducible rfl
            try simp only [Act.put, List.getElem_toArray, List.getElem_cons_succ, List.getElem_cons_zero, List.setIfInBounds_toArray, List.set_cons_zero, List.set_cons_succ]
            refine wpAnyH_take (i := 30) (v := ?v30) rfl (by kernel_rfl) (by kernel_rfl) (by kernel_rfl) (fun _ _ _ h => h) (Or.inl ⟨by kernel_rfl, ?hy30⟩) hs' ?rest30
            case hy30 => rintro w5 ⟨z0, z1, z2, z3, z4, z5, z6, z7, z8⟩; go_simp; try with_reducible rfl
            try simp only [Act.put, List.getElem_toArray, List.getElem_cons_succ, List.getElem_cons_zero, List.setIfInBounds_toArray, List.set_cons_zero, List.set_cons_succ]
            refine wpAnyH_done (by kernel_rfl) ?_ _
            have hb' := hs'.2.2.2.2.2.2.2.2
            clear HS hs' hS0
            go_wp2
            go_roundw
            case rel => exact ⟨i + 1, by go_num, by omega, hb'⟩
            case measure => simp [intOf]; omega
          · exact AllReadyH.nil
        · have hs : sclB k = true := by unfold sclB; rw [decide_eq_true hk2]; simp
          have q1 : ((k : Int) == 11) = false := by simp only [beq_eq_false_iff_ne, ne_eq]; omega
          have q2 : ((k : Int) == 12) = true := by simp only [beq_iff_eq]; omega
          have HSC := Lib.hid hs
          clear hk hk2 hs
          go_wp2_with fail
          go_region_held3 (fun w' => w'.cell? ⟨g, i * 3, none⟩ = some (.int .i64 (k : Nat)) ∧ w'.cell? ⟨g, i * 3 + 1, none⟩ = some (.int .i64 A) ∧ w'.cell? ⟨g, i * 3 + 2, none⟩ = some (.string ⟨t.toArray⟩) ∧ w'.cell? ⟨h, i * 3, none⟩ = some (.int .i64 (k : Nat)) ∧ w'.cell? ⟨h, i * 3 + 1, none⟩ = some (.int .i64 A) ∧ w'.cell? ⟨h, i * 3 + 2, none⟩ = some (.string ⟨t.toArray⟩) ∧ g < w'.heap.size ∧ h < w'.heap.size ∧ Below w.heap.size w w')
            (first | exact Sm.keep (w0 := w) HS.out ((Below.refl _ _).drew) | exact ‹Sm w _ _ _ _ _ _ _› | exact Sm.keep (w0 := w) (g := g) (h := h) (j := i * 3) (k := (k : Nat)) (a := A) (t := ⟨t.toArray⟩) ⟨‹_›, ‹_›, ‹_›, ‹_›, ‹_›, ‹_›, ‹_›, ‹_›, ‹_›⟩ ((Below.refl _ _).drew) | go_keep | fail)
            (first | (go_at_call 15; refine (scalar_sm (w0 := w) (g := g) (h := h) (j := i * 3) (a := A) (t := ⟨t.toArray⟩) k true HSC.out _ ?_).mono ?_; (first | exact HS.out | exact ‹Sm w _ _ _ _ _ _ _› | exact ⟨‹_›, ‹_›, ‹_›, ‹_›, ‹_›, ‹_›, ‹_›, ‹_›, ‹_›⟩ | fail); rintro e w' ⟨rfl, hs'⟩) | fail)
          all_goals
            have hb' := hs'.2.2.2.2.2.2.2.2
            clear HS hs'
            go_wp2
            go_roundw
            case rel => exact ⟨i + 1, by go_num, by omega, hb'⟩
            case measure => simp [intOf]; omega
        · have hs : sclB k = false := by unfold sclB; rw [decide_eq_false hk, decide_eq_false hk2]; rfl
          have q1 : ((k : Int) == 11) = false := by simp only [beq_eq_false_iff_ne, ne_eq]; omega
          have q2 : ((k : Int) == 12) = false := by simp only [beq_eq_false_iff_ne, ne_eq]; omega
          have HSC := Lib.hid hs
          clear hk hk2 hs
          go_wp2_with fail
          go_region_held3 (fun w' => w'.cell? ⟨g, i * 3, none⟩ = some (.int .i64 (k : Nat)) ∧ w'.cell? ⟨g, i * 3 + 1, none⟩ = some (.int .i64 A) ∧ w'.cell? ⟨g, i * 3 + 2, none⟩ = some (.string ⟨t.toArray⟩) ∧ w'.cell? ⟨h, i * 3, none⟩ = some (.int .i64 (k : Nat)) ∧ w'.cell? ⟨h, i * 3 + 1, none⟩ = some (.int .i64 A) ∧ w'.cell? ⟨h, i * 3 + 2, none⟩ = some (.string ⟨t.toArray⟩) ∧ g < w'.heap.size ∧ h < w'.heap.size ∧ Below w.heap.size w w')
            (first | exact Sm.keep (w0 := w) HS.out ((Below.refl _ _).drew) | exact ‹Sm w _ _ _ _ _ _ _› | exact Sm.keep (w0 := w) (g := g) (h := h) (j := i * 3) (k := (k : Nat)) (a := A) (t := ⟨t.toArray⟩) ⟨‹_›, ‹_›, ‹_›, ‹_›, ‹_›, ‹_›, ‹_›, ‹_›, ‹_›⟩ ((Below.refl _ _).drew) | go_keep | fail)
            (first | (go_at_call 15; refine (scalar_sm (w0 := w) (g := g) (h := h) (j := i * 3) (a := A) (t := ⟨t.toArray⟩) k false HSC.out _ ?_).mono ?_; (first | exact HS.out | exact ‹Sm w _ _ _ _ _ _ _› | exact ⟨‹_›, ‹_›, ‹_›, ‹_›, ‹_›, ‹_›, ‹_›, ‹_›, ‹_›⟩ | fail); rintro e w' ⟨rfl, hs'⟩) | fail)
          all_goals
            have hb' := hs'.2.2.2.2.2.2.2.2
            clear HS hs'
            go_wp2
            go_roundw
            case rel => exact ⟨i + 1, by go_num, by omega, hb'⟩
            case measure => simp [intOf]; omega
      · go_wp2
        go_ret
        exact ⟨rfl, hb⟩
end Go.Proofs.YtnnnanemefcmdaaGreatDoor
