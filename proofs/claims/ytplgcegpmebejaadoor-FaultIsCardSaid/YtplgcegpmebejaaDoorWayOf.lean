/- The walk of the law's own 'of': a way as the document has it. -/
import Derived.Test.YtplgcegpmebejaaDoorRows
import Derived.Test.YtplgcegpmebejaaDoorAid
import Derived.Test.YtplgcegpmebejaaDoorHeldJ
import Derived.Test.YtplgcegpmebejaaDoorWayMid
import Derived.WalkKit
import Derived.WalkSpells
import Derived.WalkLawsBesides
import Derived.StillTactics
import Derived.OwnWalk
import Derived.Laws.Pointers
import Derived.Deep.QuietTactic
import Derived.BigQuiet
import Derived.Deep.AppendLies
import Derived.Lib.Hide
namespace Go.Proofs.YtplgcegpmebejaaDoor
open Go.RowKit

theorem infoS : (Tryd.prog.info? 9).map (fun i => (i.zero, i.size, i.bytes)) = some (some (.string ⟨#[]⟩), 1, 16) := by kernel_rfl
theorem infoI : (Tryd.prog.info? 3).map (fun i => (i.zero, i.size, i.bytes)) = some (some (.int .i64 0), 1, 8) := by kernel_rfl
theorem grown_drew {w w' : World} {r : Option Nat} (h : w.grownBy w' r) : w.grownBy w'.drew r := ⟨h.os, h.tape, h.output, h.size, h.block⟩
theorem grown_refl (w : World) (r : Option Nat) : w.grownBy w r := ⟨rfl, rfl, rfl, Nat.le_refl _, fun _ _ _ => rfl⟩
theorem ne_own {w : World} {base : Nat} {e : TypeId} {v : Value} {n b : Nat} {xs : List Value} (h : w.ownsRow base e 1 v n xs) (hb : w.heap.size ≤ b) : some b ≠ v.ownBlock := fun e => by have := (h.lt b e.symm).2; omega

set_option maxRecDepth 100000 in
set_option maxHeartbeats 40000000 in
theorem of_any (r r' : Option Addr) (n c n' c' : Nat) (e : Nat) (cd a : Int) (W : Nat → ByteArray) (I : Nat → Int) (w : World) (hn : n ≤ 60) (_hn' : n' ≤ 9223372036854775807) (he : e < 256) (hW : ArgW r n W w) (hI : ArgI r' n' I w) :
    Calls Tryd.prog 9 #[.agg #[.slice r n c, .slice r' n' c', .int .u8 e, .int .i64 cd, .int .i64 a]] w (OfPost w W I n' n e cd a) := by
  obtain ⟨i0, hi, hz0, hzz1, hzz2⟩ := info_parts infoS
  obtain ⟨j0, hj, hy0, hy1, hy2⟩ := info_parts infoI
  have HW := Lib.hid hW
  have HI := Lib.hid hI
  clear hW hI
  go_enter Tryd.func9, Tryd.ntmps9
  go_wp2
  go_loopw [19] (fun j wr => ∃ (k : Nat) (vs va : Value), j = .int .i64 k ∧ k ≤ n ∧ Hid (OfAt w r r' n c n' c' e cd a ((LK W I n' k).map fun s => .string s.1) ((LK W I n' k).map fun s => .int .i64 s.2) vs va k wr)) (fun j _ => n - (intOf j).toNat)
  case atStart => exact ⟨0, .slice none 0 0, .slice none 0 0, rfl, by omega, Lib.hid (of_start _ _ _ _ _ _ _ _ _ _ _)⟩
  case round =>
    obtain ⟨k, vs, va, rfl, hk, hof⟩ := hrel
    by_cases hlt : k < n
    · obtain ⟨o1, o2, o3, o4, ⟨b0, b1, b4⟩, ⟨m0, m1, m2, m3, m4⟩, ⟨f0, f1⟩, rb⟩ := hof.out
      obtain ⟨aw, hra, hab, hcw⟩ := HW.out k hlt
      subst hra
      have cw : wr.cell? (aw.add k) = some (.string (W k)) := by rw [o4.cell (p := aw.add k) hab]; exact hcw
      have OF := hof
      have O1 := Lib.hid o1
      have O2 := Lib.hid o2
      have O3 := Lib.hid o3
      have hz := o4.size
      have hbm : w.heap.size + 1 + 1 < wr.heap.size := World.block_lt_of_cell? wr _ m0
      have hbz : w.heap.size < wr.heap.size := by omega
      have HW1 := Lib.hid (show (LK W I n' (k + 1)).map (fun s => Value.string s.1) = (LK W I n' k).map (fun s => Value.string s.1) ++ [.string (W k)] by rw [LK_succ, List.map_append]; rfl)
      have HI1 := Lib.hid (show (LK W I n' (k + 1)).map (fun s => Value.int .i64 s.2) = (LK W I n' k).map (fun s => Value.int .i64 s.2) ++ [.int .i64 (atOf n' I k)] by rw [LK_succ, List.map_append]; rfl)
      by_cases hk' : k < n'
      · obtain ⟨ai, hra, hib, hci⟩ := HI.out k hk'
        subst hra
        have ci : wr.cell? (ai.add k) = some (.int .i64 (I k)) := by rw [o4.cell (p := ai.add k) hib]; exact hci
        have HAT := Lib.hid (show atOf n' I k = I k by simp [atOf, hk'])
        clear o1 o2 o3 o4 hcw hci hof rb
        generalize (LK W I n' k).map (fun s => Value.string s.1) = xs at *
        generalize (LK W I n' k).map (fun s => Value.int .i64 s.2) = ys at *
        go_wp2_with fail
        refine wp_region_J (S := fun w' : World => w'.cell? ⟨w.heap.size + 1 + 1, 0, none⟩ = some vs ∧ w'.cell? ⟨w.heap.size + 1 + 1, 1, none⟩ = some va ∧ w'.cell? ⟨w.heap.size, 4, none⟩ = some (.int .i64 a)) (need := fun j => decide (j < 11)) (by kernel_rfl) ?_
        have hS : (fun w' : World => w'.cell? ⟨w.heap.size + 1 + 1, 0, none⟩ = some vs ∧ w'.cell? ⟨w.heap.size + 1 + 1, 1, none⟩ = some va ∧ w'.cell? ⟨w.heap.size, 4, none⟩ = some (.int .i64 a)) wr.drew := ⟨m0, m1, b4⟩
        change wpAnyJ _ _ _ _ _ _ _ _ _ wr.drew
        refine wpAnyJ_take (i := 0) (v := ?v0x1) rfl (by kernel_rfl) (by kernel_rfl) (by kernel_rfl) (by kernel_rfl) (by kernel_rfl) (fun _ _ _ h => h) hS (Or.inl ⟨by kernel_rfl, ?hy0x1⟩) ?rest0x1
        case hy0x1 => rintro w0 ⟨g0, g1, g2⟩; go_simp; try with_reducible rfl
        refine wpAnyJ_take (i := 1) (v := ?v1x2) rfl (by kernel_rfl) (by kernel_rfl) (by kernel_rfl) (by kernel_rfl) (by kernel_rfl) (fun _ _ _ h => h) hS (Or.inl ⟨by kernel_rfl, ?hy1x2⟩) ?rest1x2
        case hy1x2 => rintro w0 ⟨g0, g1, g2⟩; go_simp; try with_reducible rfl
        refine wpAnyJ_take (i := 2) (v := ?v2x3) rfl (by kernel_rfl) (by kernel_rfl) (by kernel_rfl) (by kernel_rfl) (by kernel_rfl) (fun _ _ _ h => h) hS (Or.inl ⟨by kernel_rfl, ?hy2x3⟩) ?rest2x3
        case hy2x3 => rintro w0 ⟨g0, g1, g2⟩; go_simp; try with_reducible rfl
        refine wpAnyJ_take (i := 5) (v := ?v5x4) rfl (by kernel_rfl) (by kernel_rfl) (by kernel_rfl) (by kernel_rfl) (by kernel_rfl) (fun _ _ _ h => h) hS (Or.inl ⟨by kernel_rfl, ?hy5x4⟩) ?rest5x4
        case hy5x4 => rintro w0 ⟨g0, g1, g2⟩; go_simp; try with_reducible rfl
        refine wpAnyJ_take (i := 6) (v := ?v6x5) rfl (by kernel_rfl) (by kernel_rfl) (by kernel_rfl) (by kernel_rfl) (by kernel_rfl) (fun _ _ _ h => h) hS (Or.inl ⟨by kernel_rfl, ?hy6x5⟩) ?rest6x5
        case hy6x5 => rintro w0 ⟨g0, g1, g2⟩; go_simp; try with_reducible rfl
        refine wpAnyJ_take (i := 7) (v := ?v7x6) rfl (by kernel_rfl) (by kernel_rfl) (by kernel_rfl) (by kernel_rfl) (by kernel_rfl) (fun _ _ _ h => h) hS (Or.inl ⟨by kernel_rfl, ?hy7x6⟩) ?rest7x6
        case hy7x6 => rintro w0 ⟨g0, g1, g2⟩; go_simp; try with_reducible rfl
        refine wpAnyJ_two (i := 3) (j := 8) (by kernel_rfl) rfl rfl ?_ ?_
        ·
          intro K hK
          go_simp
          refine hK _ _ (fun _ => ⟨by go_simp, by go_simp, by go_simp⟩) ?_
          clear hK K
          refine wpAnyJ_two (i := 4) (j := 8) (by kernel_rfl) rfl rfl ?_ ?_
          ·
            intro K hK
            refine step_append_lies _ (by rfl) _ _ 22 (by rfl) (w.heap.size + 3) 9 i0 (.string ⟨#[]⟩) 1 16 Tryd.underlying22 hi hz0 hzz1 hzz2 rfl (by decide) vs k xs (by rfl) (O1.out.alloc _) ⟨wr.heap.size, 0, none⟩ 1 1 [.string (W k)] (by rfl) (by rfl) (World.news_of_block (cs := #[.string (W k)]) (t := 9) (fr := (0, 0)) (heap_alloc_new wr _)) (by simp [Value.oneCell']) (by omega) (by unfold maxLen; omega) (by omega) (by first | omega | (simp; omega)) _ rfl ?_
            intro gg cap w1 own1 g1 at1 lt1
            have g0 : wr.grownBy _ none := grown_drew (World.grownBy_alloc wr (.cells #[.string (W k)] 9) none)
            have hb1 : ∀ b, b < w.heap.size + 3 → b < wr.heap.size → w1.heap[b]? = wr.heap[b]? := fun b x y => of_block1 O1.out g0 g1 x y
            have hS1 : (fun w' : World => w'.cell? ⟨w.heap.size + 1 + 1, 0, none⟩ = some vs ∧ w'.cell? ⟨w.heap.size + 1 + 1, 1, none⟩ = some va ∧ w'.cell? ⟨w.heap.size, 4, none⟩ = some (.int .i64 a)) w1 := ⟨by rw [World.cell?_of_block (hb1 (w.heap.size + 1 + 1) (by omega) hbm)]; exact m0, by rw [World.cell?_of_block (hb1 (w.heap.size + 1 + 1) (by omega) hbm)]; exact m1, by rw [World.cell?_of_block (hb1 w.heap.size (by omega) (by omega))]; exact b4⟩
            have hs1 := g1.size
            have hs0 := g0.size
            have hz1 : w.heap.size < w1.heap.size := by omega
            have hz2 : w.heap.size + 1 + 1 < w1.heap.size := by omega
            refine hK _ _ (fun _ => hS1) ?_
            clear hK K
            refine wpAnyJ_take (i := 10) (v := ?v10x7) rfl (by kernel_rfl) (by kernel_rfl) (by kernel_rfl) (by kernel_rfl) (by kernel_rfl) (fun _ _ _ h => h) hS1 (Or.inl ⟨by kernel_rfl, ?hy10x7⟩) ?rest10x7
            case hy10x7 => rintro w0 ⟨g0, g1, g2⟩; go_simp; try with_reducible rfl
            obtain ⟨h0, h1, h4⟩ := id hS1
            refine wpAnyJ_one (j := 8) (by kernel_rfl) rfl ?_
            intro K hK
            go_simp
            refine hK _ _ (fun _ => ⟨by go_simp, by go_simp, by go_simp⟩) ?_
            clear hK K
            clear h0 h1 h4
            have g2 : w1.grownBy _ none := World.grownBy_alloc w1 (.cells #[.int .i64 (I k)] 3) none
            have p2 := of_own2 O2.out O3.out g0 g1 g2
            refine wpAnyJ_one (j := 9) (by kernel_rfl) rfl ?_
            intro K hK
            refine step_append_lies _ (by rfl) _ _ 23 (by rfl) (w.heap.size + 3) 3 j0 (.int .i64 0) 1 8 Tryd.underlying23 hj hy0 hy1 hy2 rfl (by decide) va k ys (by rfl) p2 ⟨w1.heap.size, 0, none⟩ 1 1 [.int .i64 (I k)] (by rfl) (by rfl) (World.news_of_block (cs := #[.int .i64 (I k)]) (t := 3) (fr := (0, 0)) (heap_alloc_new w1 _)) (by simp [Value.oneCell']) (by omega) (by unfold maxLen; omega) (by omega) (by first | omega | (simp; omega)) _ rfl ?_
            intro hh cap2 w2 own2 g3 at2 lt2
            have hb2 : ∀ b, b < w.heap.size + 3 → b < wr.heap.size → w2.heap[b]? = wr.heap[b]? := fun b x y => of_block O1.out O2.out g0 g1 g2 g3 x y
            have c0 : w2.cell? ⟨w.heap.size + 1 + 1, 0, none⟩ = some vs := by rw [World.cell?_of_block (hb2 (w.heap.size + 1 + 1) (by omega) hbm)]; exact m0
            have c1 : w2.cell? ⟨w.heap.size + 1 + 1, 1, none⟩ = some va := by rw [World.cell?_of_block (hb2 (w.heap.size + 1 + 1) (by omega) hbm)]; exact m1
            have c4 : w2.cell? ⟨w.heap.size, 4, none⟩ = some (.int .i64 a) := by rw [World.cell?_of_block (hb2 w.heap.size (by omega) (by omega))]; exact b4
            have d0 : w2.frozen? ⟨w.heap.size + 1 + 1, 0, none⟩ = false := by rw [World.frozen?_of_block (hb2 (w.heap.size + 1 + 1) (by omega) hbm)]; exact f0
            have d1 : w2.frozen? ⟨w.heap.size + 1 + 1, 1, none⟩ = false := by rw [World.frozen?_of_block (hb2 (w.heap.size + 1 + 1) (by omega) hbm)]; exact f1
            have FIN := Lib.hid (of_step OF.out g0 own1 g1 at1 lt1 g2 own2 g3 at2)
            refine hK _ _ (fun _ => ⟨c0, c1, c4⟩) ?_
            clear hK K
            clear hb1 hb2 hS1 own1 g1 at1 g2 p2 own2 g3 at2 g0 c4 b4 m0 m1 f0 f1 hS
            refine wpAnyJ_one (j := 11) (by kernel_rfl) rfl ?_
            intro K hK
            go_simp
            refine hK _ _ (fun h => absurd h (by decide)) ?_
            clear hK K
            refine wpAnyJ_one (j := 12) (by kernel_rfl) rfl ?_
            intro K hK
            go_simp
            refine hK _ _ (fun h => absurd h (by decide)) ?_
            clear hK K
            refine wpAnyJ_one (j := 13) (by kernel_rfl) rfl ?_
            intro K hK
            go_simp
            refine hK _ _ (fun h => absurd h (by decide)) ?_
            clear hK K
            refine wpAnyJ_end (by kernel_rfl) ?_
            go_wp2
            go_roundw
            case rel => exact ⟨k + 1, _, _, by go_num, by omega, by rw [HW1.out, HI1.out, HAT.out]; exact FIN⟩
            case measure => simp [intOf]; omega
          ·
            intro K hK
            go_simp
            refine hK _ _ (fun _ => ⟨by first | (go_simp; done) | (go_simp; rw [World.cell?_alloc_lt _ _ _ (by simp; omega), World.cell?_alloc_lt _ _ _ (by omega)]; exact m0), by first | (go_simp; done) | (go_simp; rw [World.cell?_alloc_lt _ _ _ (by simp; omega), World.cell?_alloc_lt _ _ _ (by omega)]; exact m1), by first | (go_simp; done) | (go_simp; rw [World.cell?_alloc_lt _ _ _ (by simp; omega), World.cell?_alloc_lt _ _ _ (by omega)]; exact b4)⟩) ?_
            clear hK K
            refine wpAnyJ_one (j := 4) (by kernel_rfl) rfl ?_
            intro K hK
            refine step_append_lies _ (by rfl) _ _ 22 (by rfl) (w.heap.size + 3) 9 i0 (.string ⟨#[]⟩) 1 16 Tryd.underlying22 hi hz0 hzz1 hzz2 rfl (by decide) vs k xs (by rfl) ((O1.out.alloc _).alloc _) ⟨wr.heap.size, 0, none⟩ 1 1 [.string (W k)] (by rfl) (by rfl) (World.news_of_block (cs := #[.string (W k)]) (t := 9) (fr := (0, 0)) ((Below.heap_alloc _ _ _ (by simp)).trans (heap_alloc_new wr _))) (by simp [Value.oneCell']) (by omega) (by unfold maxLen; omega) (by omega) (by first | omega | (simp; omega)) _ rfl ?_
            intro gg cap w1 own1 g1 at1 lt1
            have g0 : wr.grownBy _ none := grown_drew ((World.grownBy_alloc wr (.cells #[.string (W k)] 9) none).trans (World.grownBy_alloc _ (.cells #[.int .i64 (I k)] 3) none))
            have hb1 : ∀ b, b < w.heap.size + 3 → b < wr.heap.size → w1.heap[b]? = wr.heap[b]? := fun b x y => of_block1 O1.out g0 g1 x y
            have hS1 : (fun w' : World => w'.cell? ⟨w.heap.size + 1 + 1, 0, none⟩ = some vs ∧ w'.cell? ⟨w.heap.size + 1 + 1, 1, none⟩ = some va ∧ w'.cell? ⟨w.heap.size, 4, none⟩ = some (.int .i64 a)) w1 := ⟨by rw [World.cell?_of_block (hb1 (w.heap.size + 1 + 1) (by omega) hbm)]; exact m0, by rw [World.cell?_of_block (hb1 (w.heap.size + 1 + 1) (by omega) hbm)]; exact m1, by rw [World.cell?_of_block (hb1 w.heap.size (by omega) (by omega))]; exact b4⟩
            have hs1 := g1.size
            have hs0 := g0.size
            have hz1 : w.heap.size < w1.heap.size := by omega
            have hz2 : w.heap.size + 1 + 1 < w1.heap.size := by omega
            refine hK _ _ (fun _ => hS1) ?_
            clear hK K
            refine wpAnyJ_take (i := 10) (v := ?v10x8) rfl (by kernel_rfl) (by kernel_rfl) (by kernel_rfl) (by kernel_rfl) (by kernel_rfl) (fun _ _ _ h => h) hS1 (Or.inl ⟨by kernel_rfl, ?hy10x8⟩) ?rest10x8
            case hy10x8 => rintro w0 ⟨g0, g1, g2⟩; go_simp; try with_reducible rfl
            have g2 : w1.grownBy _ none := grown_refl w1 none
            have p2 := of_own2 O2.out O3.out g0 g1 g2
            refine wpAnyJ_one (j := 9) (by kernel_rfl) rfl ?_
            intro K hK
            refine step_append_lies _ (by rfl) _ _ 23 (by rfl) (w.heap.size + 3) 3 j0 (.int .i64 0) 1 8 Tryd.underlying23 hj hy0 hy1 hy2 rfl (by decide) va k ys (by rfl) p2 ⟨wr.heap.size + 1, 0, none⟩ 1 1 [.int .i64 (I k)] (by rfl) (by rfl) (World.news_of_block (cs := #[.int .i64 (I k)]) (t := 3) (fr := (0, 0)) ((g1.block (wr.heap.size + 1) (by first | (simp; done) | (simp; omega)) (ne_own O1.out (by omega))).trans (show ((wr.alloc (.cells #[.string (W k)] 9)).alloc (.cells #[.int .i64 (I k)] 3)).heap[wr.heap.size + 1]? = _ from by have h := heap_alloc_new (wr.alloc (.cells #[.string (W k)] 9)) (.cells #[.int .i64 (I k)] 3); simpa using h))) (by simp [Value.oneCell']) (by omega) (by unfold maxLen; omega) (by omega) (by first | omega | (simp; omega)) _ rfl ?_
            intro hh cap2 w2 own2 g3 at2 lt2
            have hb2 : ∀ b, b < w.heap.size + 3 → b < wr.heap.size → w2.heap[b]? = wr.heap[b]? := fun b x y => of_block O1.out O2.out g0 g1 g2 g3 x y
            have c0 : w2.cell? ⟨w.heap.size + 1 + 1, 0, none⟩ = some vs := by rw [World.cell?_of_block (hb2 (w.heap.size + 1 + 1) (by omega) hbm)]; exact m0
            have c1 : w2.cell? ⟨w.heap.size + 1 + 1, 1, none⟩ = some va := by rw [World.cell?_of_block (hb2 (w.heap.size + 1 + 1) (by omega) hbm)]; exact m1
            have c4 : w2.cell? ⟨w.heap.size, 4, none⟩ = some (.int .i64 a) := by rw [World.cell?_of_block (hb2 w.heap.size (by omega) (by omega))]; exact b4
            have d0 : w2.frozen? ⟨w.heap.size + 1 + 1, 0, none⟩ = false := by rw [World.frozen?_of_block (hb2 (w.heap.size + 1 + 1) (by omega) hbm)]; exact f0
            have d1 : w2.frozen? ⟨w.heap.size + 1 + 1, 1, none⟩ = false := by rw [World.frozen?_of_block (hb2 (w.heap.size + 1 + 1) (by omega) hbm)]; exact f1
            have FIN := Lib.hid (of_step OF.out g0 own1 g1 at1 lt1 g2 own2 g3 at2)
            refine hK _ _ (fun _ => ⟨c0, c1, c4⟩) ?_
            clear hK K
            clear hb1 hb2 hS1 own1 g1 at1 g2 p2 own2 g3 at2 g0 c4 b4 m0 m1 f0 f1 hS
            refine wpAnyJ_one (j := 11) (by kernel_rfl) rfl ?_
            intro K hK
            go_simp
            refine hK _ _ (fun h => absurd h (by decide)) ?_
            clear hK K
            refine wpAnyJ_one (j := 12) (by kernel_rfl) rfl ?_
            intro K hK
            go_simp
            refine hK _ _ (fun h => absurd h (by decide)) ?_
            clear hK K
            refine wpAnyJ_one (j := 13) (by kernel_rfl) rfl ?_
            intro K hK
            go_simp
            refine hK _ _ (fun h => absurd h (by decide)) ?_
            clear hK K
            refine wpAnyJ_end (by kernel_rfl) ?_
            go_wp2
            go_roundw
            case rel => exact ⟨k + 1, _, _, by go_num, by omega, by rw [HW1.out, HI1.out, HAT.out]; exact FIN⟩
            case measure => simp [intOf]; omega
        ·
          intro K hK
          go_simp
          refine hK _ _ (fun _ => ⟨by go_simp, by go_simp, by go_simp⟩) ?_
          clear hK K
          refine wpAnyJ_one (j := 3) (by kernel_rfl) rfl ?_
          intro K hK
          go_simp
          refine hK _ _ (fun _ => ⟨by first | (go_simp; done) | (go_simp; rw [World.cell?_alloc_lt _ _ _ (by simp; omega), World.cell?_alloc_lt _ _ _ (by omega)]; exact m0), by first | (go_simp; done) | (go_simp; rw [World.cell?_alloc_lt _ _ _ (by simp; omega), World.cell?_alloc_lt _ _ _ (by omega)]; exact m1), by first | (go_simp; done) | (go_simp; rw [World.cell?_alloc_lt _ _ _ (by simp; omega), World.cell?_alloc_lt _ _ _ (by omega)]; exact b4)⟩) ?_
          clear hK K
          refine wpAnyJ_one (j := 4) (by kernel_rfl) rfl ?_
          intro K hK
          refine step_append_lies _ (by rfl) _ _ 22 (by rfl) (w.heap.size + 3) 9 i0 (.string ⟨#[]⟩) 1 16 Tryd.underlying22 hi hz0 hzz1 hzz2 rfl (by decide) vs k xs (by rfl) ((O1.out.alloc _).alloc _) ⟨wr.heap.size + 1, 0, none⟩ 1 1 [.string (W k)] (by rfl) (by rfl) (World.news_of_block (cs := #[.string (W k)]) (t := 9) (fr := (0, 0)) (show ((wr.alloc (.cells #[.int .i64 (I k)] 3)).alloc (.cells #[.string (W k)] 9)).heap[wr.heap.size + 1]? = _ from by have h := heap_alloc_new (wr.alloc (.cells #[.int .i64 (I k)] 3)) (.cells #[.string (W k)] 9); simpa using h)) (by simp [Value.oneCell']) (by omega) (by unfold maxLen; omega) (by omega) (by first | omega | (simp; omega)) _ rfl ?_
          intro gg cap w1 own1 g1 at1 lt1
          have g0 : wr.grownBy _ none := grown_drew ((World.grownBy_alloc wr (.cells #[.int .i64 (I k)] 3) none).trans (World.grownBy_alloc _ (.cells #[.string (W k)] 9) none))
          have hb1 : ∀ b, b < w.heap.size + 3 → b < wr.heap.size → w1.heap[b]? = wr.heap[b]? := fun b x y => of_block1 O1.out g0 g1 x y
          have hS1 : (fun w' : World => w'.cell? ⟨w.heap.size + 1 + 1, 0, none⟩ = some vs ∧ w'.cell? ⟨w.heap.size + 1 + 1, 1, none⟩ = some va ∧ w'.cell? ⟨w.heap.size, 4, none⟩ = some (.int .i64 a)) w1 := ⟨by rw [World.cell?_of_block (hb1 (w.heap.size + 1 + 1) (by omega) hbm)]; exact m0, by rw [World.cell?_of_block (hb1 (w.heap.size + 1 + 1) (by omega) hbm)]; exact m1, by rw [World.cell?_of_block (hb1 w.heap.size (by omega) (by omega))]; exact b4⟩
          have hs1 := g1.size
          have hs0 := g0.size
          have hz1 : w.heap.size < w1.heap.size := by omega
          have hz2 : w.heap.size + 1 + 1 < w1.heap.size := by omega
          refine hK _ _ (fun _ => hS1) ?_
          clear hK K
          refine wpAnyJ_take (i := 10) (v := ?v10x9) rfl (by kernel_rfl) (by kernel_rfl) (by kernel_rfl) (by kernel_rfl) (by kernel_rfl) (fun _ _ _ h => h) hS1 (Or.inl ⟨by kernel_rfl, ?hy10x9⟩) ?rest10x9
          case hy10x9 => rintro w0 ⟨g0, g1, g2⟩; go_simp; try with_reducible rfl
          have g2 : w1.grownBy _ none := grown_refl w1 none
          have p2 := of_own2 O2.out O3.out g0 g1 g2
          refine wpAnyJ_one (j := 9) (by kernel_rfl) rfl ?_
          intro K hK
          refine step_append_lies _ (by rfl) _ _ 23 (by rfl) (w.heap.size + 3) 3 j0 (.int .i64 0) 1 8 Tryd.underlying23 hj hy0 hy1 hy2 rfl (by decide) va k ys (by rfl) p2 ⟨wr.heap.size, 0, none⟩ 1 1 [.int .i64 (I k)] (by rfl) (by rfl) (World.news_of_block (cs := #[.int .i64 (I k)]) (t := 3) (fr := (0, 0)) ((g1.block wr.heap.size (by first | (simp; done) | (simp; omega)) (ne_own O1.out (by omega))).trans ((Below.heap_alloc _ _ _ (by simp)).trans (heap_alloc_new wr _)))) (by simp [Value.oneCell']) (by omega) (by unfold maxLen; omega) (by omega) (by first | omega | (simp; omega)) _ rfl ?_
          intro hh cap2 w2 own2 g3 at2 lt2
          have hb2 : ∀ b, b < w.heap.size + 3 → b < wr.heap.size → w2.heap[b]? = wr.heap[b]? := fun b x y => of_block O1.out O2.out g0 g1 g2 g3 x y
          have c0 : w2.cell? ⟨w.heap.size + 1 + 1, 0, none⟩ = some vs := by rw [World.cell?_of_block (hb2 (w.heap.size + 1 + 1) (by omega) hbm)]; exact m0
          have c1 : w2.cell? ⟨w.heap.size + 1 + 1, 1, none⟩ = some va := by rw [World.cell?_of_block (hb2 (w.heap.size + 1 + 1) (by omega) hbm)]; exact m1
          have c4 : w2.cell? ⟨w.heap.size, 4, none⟩ = some (.int .i64 a) := by rw [World.cell?_of_block (hb2 w.heap.size (by omega) (by omega))]; exact b4
          have d0 : w2.frozen? ⟨w.heap.size + 1 + 1, 0, none⟩ = false := by rw [World.frozen?_of_block (hb2 (w.heap.size + 1 + 1) (by omega) hbm)]; exact f0
          have d1 : w2.frozen? ⟨w.heap.size + 1 + 1, 1, none⟩ = false := by rw [World.frozen?_of_block (hb2 (w.heap.size + 1 + 1) (by omega) hbm)]; exact f1
          have FIN := Lib.hid (of_step OF.out g0 own1 g1 at1 lt1 g2 own2 g3 at2)
          refine hK _ _ (fun _ => ⟨c0, c1, c4⟩) ?_
          clear hK K
          clear hb1 hb2 hS1 own1 g1 at1 g2 p2 own2 g3 at2 g0 c4 b4 m0 m1 f0 f1 hS
          refine wpAnyJ_one (j := 11) (by kernel_rfl) rfl ?_
          intro K hK
          go_simp
          refine hK _ _ (fun h => absurd h (by decide)) ?_
          clear hK K
          refine wpAnyJ_one (j := 12) (by kernel_rfl) rfl ?_
          intro K hK
          go_simp
          refine hK _ _ (fun h => absurd h (by decide)) ?_
          clear hK K
          refine wpAnyJ_one (j := 13) (by kernel_rfl) rfl ?_
          intro K hK
          go_simp
          refine hK _ _ (fun h => absurd h (by decide)) ?_
          clear hK K
          refine wpAnyJ_end (by kernel_rfl) ?_
          go_wp2
          go_roundw
          case rel => exact ⟨k + 1, _, _, by go_num, by omega, by rw [HW1.out, HI1.out, HAT.out]; exact FIN⟩
          case measure => simp [intOf]; omega
      · have HAT := Lib.hid (show atOf n' I k = 0 by simp [atOf, hk'])
        clear o1 o2 o3 o4 hcw hof rb
        generalize (LK W I n' k).map (fun s => Value.string s.1) = xs at *
        generalize (LK W I n' k).map (fun s => Value.int .i64 s.2) = ys at *
        go_wp2_with fail
        refine wp_region_J (S := fun w' : World => w'.cell? ⟨w.heap.size + 1 + 1, 0, none⟩ = some vs ∧ w'.cell? ⟨w.heap.size + 1 + 1, 1, none⟩ = some va ∧ w'.cell? ⟨w.heap.size, 4, none⟩ = some (.int .i64 a)) (need := fun j => decide (j < 11)) (by kernel_rfl) ?_
        have hS : (fun w' : World => w'.cell? ⟨w.heap.size + 1 + 1, 0, none⟩ = some vs ∧ w'.cell? ⟨w.heap.size + 1 + 1, 1, none⟩ = some va ∧ w'.cell? ⟨w.heap.size, 4, none⟩ = some (.int .i64 a)) wr.drew := ⟨m0, m1, b4⟩
        change wpAnyJ _ _ _ _ _ _ _ _ _ wr.drew
        refine wpAnyJ_take (i := 0) (v := ?v0x101) rfl (by kernel_rfl) (by kernel_rfl) (by kernel_rfl) (by kernel_rfl) (by kernel_rfl) (fun _ _ _ h => h) hS (Or.inl ⟨by kernel_rfl, ?hy0x101⟩) ?rest0x101
        case hy0x101 => rintro w0 ⟨g0, g1, g2⟩; go_simp; try with_reducible rfl
        refine wpAnyJ_take (i := 1) (v := ?v1x102) rfl (by kernel_rfl) (by kernel_rfl) (by kernel_rfl) (by kernel_rfl) (by kernel_rfl) (fun _ _ _ h => h) hS (Or.inl ⟨by kernel_rfl, ?hy1x102⟩) ?rest1x102
        case hy1x102 => rintro w0 ⟨g0, g1, g2⟩; go_simp; try with_reducible rfl
        refine wpAnyJ_take (i := 2) (v := ?v2x103) rfl (by kernel_rfl) (by kernel_rfl) (by kernel_rfl) (by kernel_rfl) (by kernel_rfl) (fun _ _ _ h => h) hS (Or.inl ⟨by kernel_rfl, ?hy2x103⟩) ?rest2x103
        case hy2x103 => rintro w0 ⟨g0, g1, g2⟩; go_simp; try with_reducible rfl
        refine wpAnyJ_take (i := 5) (v := ?v5x104) rfl (by kernel_rfl) (by kernel_rfl) (by kernel_rfl) (by kernel_rfl) (by kernel_rfl) (fun _ _ _ h => h) hS (Or.inl ⟨by kernel_rfl, ?hy5x104⟩) ?rest5x104
        case hy5x104 => rintro w0 ⟨g0, g1, g2⟩; go_simp; try with_reducible rfl
        refine wpAnyJ_take (i := 6) (v := ?v6x105) rfl (by kernel_rfl) (by kernel_rfl) (by kernel_rfl) (by kernel_rfl) (by kernel_rfl) (fun _ _ _ h => h) hS (Or.inl ⟨by kernel_rfl, ?hy6x105⟩) ?rest6x105
        case hy6x105 => rintro w0 ⟨g0, g1, g2⟩; go_simp; try with_reducible rfl
        refine wpAnyJ_take (i := 7) (v := ?v7x106) rfl (by kernel_rfl) (by kernel_rfl) (by kernel_rfl) (by kernel_rfl) (by kernel_rfl) (fun _ _ _ h => h) hS (Or.inl ⟨by kernel_rfl, ?hy7x106⟩) ?rest7x106
        case hy7x106 => rintro w0 ⟨g0, g1, g2⟩; go_simp; try with_reducible rfl
        refine wpAnyJ_two (i := 3) (j := 8) (by kernel_rfl) rfl rfl ?_ ?_
        ·
          intro K hK
          go_simp
          refine hK _ _ (fun _ => ⟨by go_simp, by go_simp, by go_simp⟩) ?_
          clear hK K
          refine wpAnyJ_two (i := 4) (j := 8) (by kernel_rfl) rfl rfl ?_ ?_
          ·
            intro K hK
            refine step_append_lies _ (by rfl) _ _ 22 (by rfl) (w.heap.size + 3) 9 i0 (.string ⟨#[]⟩) 1 16 Tryd.underlying22 hi hz0 hzz1 hzz2 rfl (by decide) vs k xs (by rfl) (O1.out.alloc _) ⟨wr.heap.size, 0, none⟩ 1 1 [.string (W k)] (by rfl) (by rfl) (World.news_of_block (cs := #[.string (W k)]) (t := 9) (fr := (0, 0)) (heap_alloc_new wr _)) (by simp [Value.oneCell']) (by omega) (by unfold maxLen; omega) (by omega) (by first | omega | (simp; omega)) _ rfl ?_
            intro gg cap w1 own1 g1 at1 lt1
            have g0 : wr.grownBy _ none := grown_drew (World.grownBy_alloc wr (.cells #[.string (W k)] 9) none)
            have hb1 : ∀ b, b < w.heap.size + 3 → b < wr.heap.size → w1.heap[b]? = wr.heap[b]? := fun b x y => of_block1 O1.out g0 g1 x y
            have hS1 : (fun w' : World => w'.cell? ⟨w.heap.size + 1 + 1, 0, none⟩ = some vs ∧ w'.cell? ⟨w.heap.size + 1 + 1, 1, none⟩ = some va ∧ w'.cell? ⟨w.heap.size, 4, none⟩ = some (.int .i64 a)) w1 := ⟨by rw [World.cell?_of_block (hb1 (w.heap.size + 1 + 1) (by omega) hbm)]; exact m0, by rw [World.cell?_of_block (hb1 (w.heap.size + 1 + 1) (by omega) hbm)]; exact m1, by rw [World.cell?_of_block (hb1 w.heap.size (by omega) (by omega))]; exact b4⟩
            have hs1 := g1.size
            have hs0 := g0.size
            have hz1 : w.heap.size < w1.heap.size := by omega
            have hz2 : w.heap.size + 1 + 1 < w1.heap.size := by omega
            refine hK _ _ (fun _ => hS1) ?_
            clear hK K
            refine wpAnyJ_take (i := 10) (v := ?v10x107) rfl (by kernel_rfl) (by kernel_rfl) (by kernel_rfl) (by kernel_rfl) (by kernel_rfl) (fun _ _ _ h => h) hS1 (Or.inl ⟨by kernel_rfl, ?hy10x107⟩) ?rest10x107
            case hy10x107 => rintro w0 ⟨g0, g1, g2⟩; go_simp; try with_reducible rfl
            obtain ⟨h0, h1, h4⟩ := id hS1
            refine wpAnyJ_one (j := 8) (by kernel_rfl) rfl ?_
            intro K hK
            go_simp
            refine hK _ _ (fun _ => ⟨by go_simp, by go_simp, by go_simp⟩) ?_
            clear hK K
            clear h0 h1 h4
            have g2 : w1.grownBy _ none := World.grownBy_alloc w1 (.cells #[.int .i64 0] 3) none
            have p2 := of_own2 O2.out O3.out g0 g1 g2
            refine wpAnyJ_one (j := 9) (by kernel_rfl) rfl ?_
            intro K hK
            refine step_append_lies _ (by rfl) _ _ 23 (by rfl) (w.heap.size + 3) 3 j0 (.int .i64 0) 1 8 Tryd.underlying23 hj hy0 hy1 hy2 rfl (by decide) va k ys (by rfl) p2 ⟨w1.heap.size, 0, none⟩ 1 1 [.int .i64 0] (by rfl) (by rfl) (World.news_of_block (cs := #[.int .i64 0]) (t := 3) (fr := (0, 0)) (heap_alloc_new w1 _)) (by simp [Value.oneCell']) (by omega) (by unfold maxLen; omega) (by omega) (by first | omega | (simp; omega)) _ rfl ?_
            intro hh cap2 w2 own2 g3 at2 lt2
            have hb2 : ∀ b, b < w.heap.size + 3 → b < wr.heap.size → w2.heap[b]? = wr.heap[b]? := fun b x y => of_block O1.out O2.out g0 g1 g2 g3 x y
            have c0 : w2.cell? ⟨w.heap.size + 1 + 1, 0, none⟩ = some vs := by rw [World.cell?_of_block (hb2 (w.heap.size + 1 + 1) (by omega) hbm)]; exact m0
            have c1 : w2.cell? ⟨w.heap.size + 1 + 1, 1, none⟩ = some va := by rw [World.cell?_of_block (hb2 (w.heap.size + 1 + 1) (by omega) hbm)]; exact m1
            have c4 : w2.cell? ⟨w.heap.size, 4, none⟩ = some (.int .i64 a) := by rw [World.cell?_of_block (hb2 w.heap.size (by omega) (by omega))]; exact b4
            have d0 : w2.frozen? ⟨w.heap.size + 1 + 1, 0, none⟩ = false := by rw [World.frozen?_of_block (hb2 (w.heap.size + 1 + 1) (by omega) hbm)]; exact f0
            have d1 : w2.frozen? ⟨w.heap.size + 1 + 1, 1, none⟩ = false := by rw [World.frozen?_of_block (hb2 (w.heap.size + 1 + 1) (by omega) hbm)]; exact f1
            have FIN := Lib.hid (of_step OF.out g0 own1 g1 at1 lt1 g2 own2 g3 at2)
            refine hK _ _ (fun _ => ⟨c0, c1, c4⟩) ?_
            clear hK K
            clear hb1 hb2 hS1 own1 g1 at1 g2 p2 own2 g3 at2 g0 c4 b4 m0 m1 f0 f1 hS
            refine wpAnyJ_one (j := 11) (by kernel_rfl) rfl ?_
            intro K hK
            go_simp
            refine hK _ _ (fun h => absurd h (by decide)) ?_
            clear hK K
            refine wpAnyJ_one (j := 12) (by kernel_rfl) rfl ?_
            intro K hK
            go_simp
            refine hK _ _ (fun h => absurd h (by decide)) ?_
            clear hK K
            refine wpAnyJ_one (j := 13) (by kernel_rfl) rfl ?_
            intro K hK
            go_simp
            refine hK _ _ (fun h => absurd h (by decide)) ?_
            clear hK K
            refine wpAnyJ_end (by kernel_rfl) ?_
            go_wp2
            go_roundw
            case rel => exact ⟨k + 1, _, _, by go_num, by omega, by rw [HW1.out, HI1.out, HAT.out]; exact FIN⟩
            case measure => simp [intOf]; omega
          ·
            intro K hK
            go_simp
            refine hK _ _ (fun _ => ⟨by first | (go_simp; done) | (go_simp; rw [World.cell?_alloc_lt _ _ _ (by simp; omega), World.cell?_alloc_lt _ _ _ (by omega)]; exact m0), by first | (go_simp; done) | (go_simp; rw [World.cell?_alloc_lt _ _ _ (by simp; omega), World.cell?_alloc_lt _ _ _ (by omega)]; exact m1), by first | (go_simp; done) | (go_simp; rw [World.cell?_alloc_lt _ _ _ (by simp; omega), World.cell?_alloc_lt _ _ _ (by omega)]; exact b4)⟩) ?_
            clear hK K
            refine wpAnyJ_one (j := 4) (by kernel_rfl) rfl ?_
            intro K hK
            refine step_append_lies _ (by rfl) _ _ 22 (by rfl) (w.heap.size + 3) 9 i0 (.string ⟨#[]⟩) 1 16 Tryd.underlying22 hi hz0 hzz1 hzz2 rfl (by decide) vs k xs (by rfl) ((O1.out.alloc _).alloc _) ⟨wr.heap.size, 0, none⟩ 1 1 [.string (W k)] (by rfl) (by rfl) (World.news_of_block (cs := #[.string (W k)]) (t := 9) (fr := (0, 0)) ((Below.heap_alloc _ _ _ (by simp)).trans (heap_alloc_new wr _))) (by simp [Value.oneCell']) (by omega) (by unfold maxLen; omega) (by omega) (by first | omega | (simp; omega)) _ rfl ?_
            intro gg cap w1 own1 g1 at1 lt1
            have g0 : wr.grownBy _ none := grown_drew ((World.grownBy_alloc wr (.cells #[.string (W k)] 9) none).trans (World.grownBy_alloc _ (.cells #[.int .i64 0] 3) none))
            have hb1 : ∀ b, b < w.heap.size + 3 → b < wr.heap.size → w1.heap[b]? = wr.heap[b]? := fun b x y => of_block1 O1.out g0 g1 x y
            have hS1 : (fun w' : World => w'.cell? ⟨w.heap.size + 1 + 1, 0, none⟩ = some vs ∧ w'.cell? ⟨w.heap.size + 1 + 1, 1, none⟩ = some va ∧ w'.cell? ⟨w.heap.size, 4, none⟩ = some (.int .i64 a)) w1 := ⟨by rw [World.cell?_of_block (hb1 (w.heap.size + 1 + 1) (by omega) hbm)]; exact m0, by rw [World.cell?_of_block (hb1 (w.heap.size + 1 + 1) (by omega) hbm)]; exact m1, by rw [World.cell?_of_block (hb1 w.heap.size (by omega) (by omega))]; exact b4⟩
            have hs1 := g1.size
            have hs0 := g0.size
            have hz1 : w.heap.size < w1.heap.size := by omega
            have hz2 : w.heap.size + 1 + 1 < w1.heap.size := by omega
            refine hK _ _ (fun _ => hS1) ?_
            clear hK K
            refine wpAnyJ_take (i := 10) (v := ?v10x108) rfl (by kernel_rfl) (by kernel_rfl) (by kernel_rfl) (by kernel_rfl) (by kernel_rfl) (fun _ _ _ h => h) hS1 (Or.inl ⟨by kernel_rfl, ?hy10x108⟩) ?rest10x108
            case hy10x108 => rintro w0 ⟨g0, g1, g2⟩; go_simp; try with_reducible rfl
            have g2 : w1.grownBy _ none := grown_refl w1 none
            have p2 := of_own2 O2.out O3.out g0 g1 g2
            refine wpAnyJ_one (j := 9) (by kernel_rfl) rfl ?_
            intro K hK
            refine step_append_lies _ (by rfl) _ _ 23 (by rfl) (w.heap.size + 3) 3 j0 (.int .i64 0) 1 8 Tryd.underlying23 hj hy0 hy1 hy2 rfl (by decide) va k ys (by rfl) p2 ⟨wr.heap.size + 1, 0, none⟩ 1 1 [.int .i64 0] (by rfl) (by rfl) (World.news_of_block (cs := #[.int .i64 0]) (t := 3) (fr := (0, 0)) ((g1.block (wr.heap.size + 1) (by first | (simp; done) | (simp; omega)) (ne_own O1.out (by omega))).trans (show ((wr.alloc (.cells #[.string (W k)] 9)).alloc (.cells #[.int .i64 0] 3)).heap[wr.heap.size + 1]? = _ from by have h := heap_alloc_new (wr.alloc (.cells #[.string (W k)] 9)) (.cells #[.int .i64 0] 3); simpa using h))) (by simp [Value.oneCell']) (by omega) (by unfold maxLen; omega) (by omega) (by first | omega | (simp; omega)) _ rfl ?_
            intro hh cap2 w2 own2 g3 at2 lt2
            have hb2 : ∀ b, b < w.heap.size + 3 → b < wr.heap.size → w2.heap[b]? = wr.heap[b]? := fun b x y => of_block O1.out O2.out g0 g1 g2 g3 x y
            have c0 : w2.cell? ⟨w.heap.size + 1 + 1, 0, none⟩ = some vs := by rw [World.cell?_of_block (hb2 (w.heap.size + 1 + 1) (by omega) hbm)]; exact m0
            have c1 : w2.cell? ⟨w.heap.size + 1 + 1, 1, none⟩ = some va := by rw [World.cell?_of_block (hb2 (w.heap.size + 1 + 1) (by omega) hbm)]; exact m1
            have c4 : w2.cell? ⟨w.heap.size, 4, none⟩ = some (.int .i64 a) := by rw [World.cell?_of_block (hb2 w.heap.size (by omega) (by omega))]; exact b4
            have d0 : w2.frozen? ⟨w.heap.size + 1 + 1, 0, none⟩ = false := by rw [World.frozen?_of_block (hb2 (w.heap.size + 1 + 1) (by omega) hbm)]; exact f0
            have d1 : w2.frozen? ⟨w.heap.size + 1 + 1, 1, none⟩ = false := by rw [World.frozen?_of_block (hb2 (w.heap.size + 1 + 1) (by omega) hbm)]; exact f1
            have FIN := Lib.hid (of_step OF.out g0 own1 g1 at1 lt1 g2 own2 g3 at2)
            refine hK _ _ (fun _ => ⟨c0, c1, c4⟩) ?_
            clear hK K
            clear hb1 hb2 hS1 own1 g1 at1 g2 p2 own2 g3 at2 g0 c4 b4 m0 m1 f0 f1 hS
            refine wpAnyJ_one (j := 11) (by kernel_rfl) rfl ?_
            intro K hK
            go_simp
            refine hK _ _ (fun h => absurd h (by decide)) ?_
            clear hK K
            refine wpAnyJ_one (j := 12) (by kernel_rfl) rfl ?_
            intro K hK
            go_simp
            refine hK _ _ (fun h => absurd h (by decide)) ?_
            clear hK K
            refine wpAnyJ_one (j := 13) (by kernel_rfl) rfl ?_
            intro K hK
            go_simp
            refine hK _ _ (fun h => absurd h (by decide)) ?_
            clear hK K
            refine wpAnyJ_end (by kernel_rfl) ?_
            go_wp2
            go_roundw
            case rel => exact ⟨k + 1, _, _, by go_num, by omega, by rw [HW1.out, HI1.out, HAT.out]; exact FIN⟩
            case measure => simp [intOf]; omega
        ·
          intro K hK
          go_simp
          refine hK _ _ (fun _ => ⟨by go_simp, by go_simp, by go_simp⟩) ?_
          clear hK K
          refine wpAnyJ_one (j := 3) (by kernel_rfl) rfl ?_
          intro K hK
          go_simp
          refine hK _ _ (fun _ => ⟨by first | (go_simp; done) | (go_simp; rw [World.cell?_alloc_lt _ _ _ (by simp; omega), World.cell?_alloc_lt _ _ _ (by omega)]; exact m0), by first | (go_simp; done) | (go_simp; rw [World.cell?_alloc_lt _ _ _ (by simp; omega), World.cell?_alloc_lt _ _ _ (by omega)]; exact m1), by first | (go_simp; done) | (go_simp; rw [World.cell?_alloc_lt _ _ _ (by simp; omega), World.cell?_alloc_lt _ _ _ (by omega)]; exact b4)⟩) ?_
          clear hK K
          refine wpAnyJ_one (j := 4) (by kernel_rfl) rfl ?_
          intro K hK
          refine step_append_lies _ (by rfl) _ _ 22 (by rfl) (w.heap.size + 3) 9 i0 (.string ⟨#[]⟩) 1 16 Tryd.underlying22 hi hz0 hzz1 hzz2 rfl (by decide) vs k xs (by rfl) ((O1.out.alloc _).alloc _) ⟨wr.heap.size + 1, 0, none⟩ 1 1 [.string (W k)] (by rfl) (by rfl) (World.news_of_block (cs := #[.string (W k)]) (t := 9) (fr := (0, 0)) (show ((wr.alloc (.cells #[.int .i64 0] 3)).alloc (.cells #[.string (W k)] 9)).heap[wr.heap.size + 1]? = _ from by have h := heap_alloc_new (wr.alloc (.cells #[.int .i64 0] 3)) (.cells #[.string (W k)] 9); simpa using h)) (by simp [Value.oneCell']) (by omega) (by unfold maxLen; omega) (by omega) (by first | omega | (simp; omega)) _ rfl ?_
          intro gg cap w1 own1 g1 at1 lt1
          have g0 : wr.grownBy _ none := grown_drew ((World.grownBy_alloc wr (.cells #[.int .i64 0] 3) none).trans (World.grownBy_alloc _ (.cells #[.string (W k)] 9) none))
          have hb1 : ∀ b, b < w.heap.size + 3 → b < wr.heap.size → w1.heap[b]? = wr.heap[b]? := fun b x y => of_block1 O1.out g0 g1 x y
          have hS1 : (fun w' : World => w'.cell? ⟨w.heap.size + 1 + 1, 0, none⟩ = some vs ∧ w'.cell? ⟨w.heap.size + 1 + 1, 1, none⟩ = some va ∧ w'.cell? ⟨w.heap.size, 4, none⟩ = some (.int .i64 a)) w1 := ⟨by rw [World.cell?_of_block (hb1 (w.heap.size + 1 + 1) (by omega) hbm)]; exact m0, by rw [World.cell?_of_block (hb1 (w.heap.size + 1 + 1) (by omega) hbm)]; exact m1, by rw [World.cell?_of_block (hb1 w.heap.size (by omega) (by omega))]; exact b4⟩
          have hs1 := g1.size
          have hs0 := g0.size
          have hz1 : w.heap.size < w1.heap.size := by omega
          have hz2 : w.heap.size + 1 + 1 < w1.heap.size := by omega
          refine hK _ _ (fun _ => hS1) ?_
          clear hK K
          refine wpAnyJ_take (i := 10) (v := ?v10x109) rfl (by kernel_rfl) (by kernel_rfl) (by kernel_rfl) (by kernel_rfl) (by kernel_rfl) (fun _ _ _ h => h) hS1 (Or.inl ⟨by kernel_rfl, ?hy10x109⟩) ?rest10x109
          case hy10x109 => rintro w0 ⟨g0, g1, g2⟩; go_simp; try with_reducible rfl
          have g2 : w1.grownBy _ none := grown_refl w1 none
          have p2 := of_own2 O2.out O3.out g0 g1 g2
          refine wpAnyJ_one (j := 9) (by kernel_rfl) rfl ?_
          intro K hK
          refine step_append_lies _ (by rfl) _ _ 23 (by rfl) (w.heap.size + 3) 3 j0 (.int .i64 0) 1 8 Tryd.underlying23 hj hy0 hy1 hy2 rfl (by decide) va k ys (by rfl) p2 ⟨wr.heap.size, 0, none⟩ 1 1 [.int .i64 0] (by rfl) (by rfl) (World.news_of_block (cs := #[.int .i64 0]) (t := 3) (fr := (0, 0)) ((g1.block wr.heap.size (by first | (simp; done) | (simp; omega)) (ne_own O1.out (by omega))).trans ((Below.heap_alloc _ _ _ (by simp)).trans (heap_alloc_new wr _)))) (by simp [Value.oneCell']) (by omega) (by unfold maxLen; omega) (by omega) (by first | omega | (simp; omega)) _ rfl ?_
          intro hh cap2 w2 own2 g3 at2 lt2
          have hb2 : ∀ b, b < w.heap.size + 3 → b < wr.heap.size → w2.heap[b]? = wr.heap[b]? := fun b x y => of_block O1.out O2.out g0 g1 g2 g3 x y
          have c0 : w2.cell? ⟨w.heap.size + 1 + 1, 0, none⟩ = some vs := by rw [World.cell?_of_block (hb2 (w.heap.size + 1 + 1) (by omega) hbm)]; exact m0
          have c1 : w2.cell? ⟨w.heap.size + 1 + 1, 1, none⟩ = some va := by rw [World.cell?_of_block (hb2 (w.heap.size + 1 + 1) (by omega) hbm)]; exact m1
          have c4 : w2.cell? ⟨w.heap.size, 4, none⟩ = some (.int .i64 a) := by rw [World.cell?_of_block (hb2 w.heap.size (by omega) (by omega))]; exact b4
          have d0 : w2.frozen? ⟨w.heap.size + 1 + 1, 0, none⟩ = false := by rw [World.frozen?_of_block (hb2 (w.heap.size + 1 + 1) (by omega) hbm)]; exact f0
          have d1 : w2.frozen? ⟨w.heap.size + 1 + 1, 1, none⟩ = false := by rw [World.frozen?_of_block (hb2 (w.heap.size + 1 + 1) (by omega) hbm)]; exact f1
          have FIN := Lib.hid (of_step OF.out g0 own1 g1 at1 lt1 g2 own2 g3 at2)
          refine hK _ _ (fun _ => ⟨c0, c1, c4⟩) ?_
          clear hK K
          clear hb1 hb2 hS1 own1 g1 at1 g2 p2 own2 g3 at2 g0 c4 b4 m0 m1 f0 f1 hS
          refine wpAnyJ_one (j := 11) (by kernel_rfl) rfl ?_
          intro K hK
          go_simp
          refine hK _ _ (fun h => absurd h (by decide)) ?_
          clear hK K
          refine wpAnyJ_one (j := 12) (by kernel_rfl) rfl ?_
          intro K hK
          go_simp
          refine hK _ _ (fun h => absurd h (by decide)) ?_
          clear hK K
          refine wpAnyJ_one (j := 13) (by kernel_rfl) rfl ?_
          intro K hK
          go_simp
          refine hK _ _ (fun h => absurd h (by decide)) ?_
          clear hK K
          refine wpAnyJ_end (by kernel_rfl) ?_
          go_wp2
          go_roundw
          case rel => exact ⟨k + 1, _, _, by go_num, by omega, by rw [HW1.out, HI1.out, HAT.out]; exact FIN⟩
          case measure => simp [intOf]; omega
    · have hkn : k = n := by omega
      subst hkn
      by_cases h0 : e % 3 = 0
      · have hL : LL W I n' k e a = LK W I n' k ++ [(⟨#[101, 110, 100]⟩, a)] := by simp [LL, h0]
        have HL := Lib.hid hL
        have HLN := Lib.hid (show (LK W I n' k ++ [((⟨#[101, 110, 100]⟩ : ByteArray), a)]).length = k + 1 by simp [LK_len])
        have HW1 := Lib.hid (show (LK W I n' k ++ [((⟨#[101, 110, 100]⟩ : ByteArray), a)]).map (fun s => Value.string s.1) = (LK W I n' k).map (fun s => Value.string s.1) ++ [.string ⟨#[101, 110, 100]⟩] by rw [List.map_append]; rfl)
        have HI1 := Lib.hid (show (LK W I n' k ++ [((⟨#[101, 110, 100]⟩ : ByteArray), a)]).map (fun s => Value.int .i64 s.2) = (LK W I n' k).map (fun s => Value.int .i64 s.2) ++ [.int .i64 a] by rw [List.map_append]; rfl)
        obtain ⟨o1, o2, o3, o4, ⟨b0, b1, b4⟩, ⟨m0, m1, m2, m3, m4⟩, ⟨f0, f1⟩, rb⟩ := hof.out
        have k5 : (((e : Int) % 3) == 0) = true := by simp; omega
        have OF := hof
        have O1 := Lib.hid o1
        have O2 := Lib.hid o2
        have O3 := Lib.hid o3
        have hz := o4.size
        have hbm : w.heap.size + 1 + 1 < wr.heap.size := World.block_lt_of_cell? wr _ m0
        have hbz : w.heap.size < wr.heap.size := by omega
        clear hL o1 o2 o3 o4 hof h0 rb
        generalize (LK W I n' k).map (fun s => Value.string s.1) = xs at *
        generalize (LK W I n' k).map (fun s => Value.int .i64 s.2) = ys at *
        go_wp2_with fail
        refine wp_region_J (S := fun w' : World => w'.cell? ⟨w.heap.size + 1 + 1, 0, none⟩ = some vs ∧ w'.cell? ⟨w.heap.size + 1 + 1, 1, none⟩ = some va ∧ w'.cell? ⟨w.heap.size, 4, none⟩ = some (.int .i64 a)) (need := fun j => decide (j < 11)) (by kernel_rfl) ?_
        have hS : (fun w' : World => w'.cell? ⟨w.heap.size + 1 + 1, 0, none⟩ = some vs ∧ w'.cell? ⟨w.heap.size + 1 + 1, 1, none⟩ = some va ∧ w'.cell? ⟨w.heap.size, 4, none⟩ = some (.int .i64 a)) wr.drew := ⟨m0, m1, b4⟩
        change wpAnyJ _ _ _ _ _ _ _ _ _ wr.drew
        refine wpAnyJ_take (i := 0) (v := ?v0x201) rfl (by kernel_rfl) (by kernel_rfl) (by kernel_rfl) (by kernel_rfl) (by kernel_rfl) (fun _ _ _ h => h) hS (Or.inl ⟨by kernel_rfl, ?hy0x201⟩) ?rest0x201
        case hy0x201 => rintro w0 ⟨g0, g1, g2⟩; go_simp; try with_reducible rfl
        refine wpAnyJ_take (i := 1) (v := ?v1x202) rfl (by kernel_rfl) (by kernel_rfl) (by kernel_rfl) (by kernel_rfl) (by kernel_rfl) (fun _ _ _ h => h) hS (Or.inl ⟨by kernel_rfl, ?hy1x202⟩) ?rest1x202
        case hy1x202 => rintro w0 ⟨g0, g1, g2⟩; go_simp; try with_reducible rfl
        refine wpAnyJ_take (i := 4) (v := ?v4x203) rfl (by kernel_rfl) (by kernel_rfl) (by kernel_rfl) (by kernel_rfl) (by kernel_rfl) (fun _ _ _ h => h) hS (Or.inl ⟨by kernel_rfl, ?hy4x203⟩) ?rest4x203
        case hy4x203 => rintro w0 ⟨g0, g1, g2⟩; go_simp; try with_reducible rfl
        refine wpAnyJ_take (i := 5) (v := ?v5x204) rfl (by kernel_rfl) (by kernel_rfl) (by kernel_rfl) (by kernel_rfl) (by kernel_rfl) (fun _ _ _ h => h) hS (Or.inl ⟨by kernel_rfl, ?hy5x204⟩) ?rest5x204
        case hy5x204 => rintro w0 ⟨g0, g1, g2⟩; go_simp; try with_reducible rfl
        refine wpAnyJ_take (i := 6) (v := ?v6x205) rfl (by kernel_rfl) (by kernel_rfl) (by kernel_rfl) (by kernel_rfl) (by kernel_rfl) (fun _ _ _ h => h) hS (Or.inl ⟨by kernel_rfl, ?hy6x205⟩) ?rest6x205
        case hy6x205 => rintro w0 ⟨g0, g1, g2⟩; go_simp; try with_reducible rfl
        refine wpAnyJ_take (i := 7) (v := ?v7x206) rfl (by kernel_rfl) (by kernel_rfl) (by kernel_rfl) (by kernel_rfl) (by kernel_rfl) (fun _ _ _ h => h) hS (Or.inl ⟨by kernel_rfl, ?hy7x206⟩) ?rest7x206
        case hy7x206 => rintro w0 ⟨g0, g1, g2⟩; go_simp; try with_reducible rfl
        refine wpAnyJ_two (i := 2) (j := 8) (by kernel_rfl) rfl rfl ?_ ?_
        ·
          intro K hK
          go_simp
          refine hK _ _ (fun _ => ⟨by go_simp, by go_simp, by go_simp⟩) ?_
          clear hK K
          refine wpAnyJ_two (i := 3) (j := 8) (by kernel_rfl) rfl rfl ?_ ?_
          ·
            intro K hK
            refine step_append_lies _ (by rfl) _ _ 22 (by rfl) (w.heap.size + 3) 9 i0 (.string ⟨#[]⟩) 1 16 Tryd.underlying22 hi hz0 hzz1 hzz2 rfl (by decide) vs k xs (by rfl) (O1.out.alloc _) ⟨wr.heap.size, 0, none⟩ 1 1 [.string ⟨#[101, 110, 100]⟩] (by rfl) (by rfl) (World.news_of_block (cs := #[.string ⟨#[101, 110, 100]⟩]) (t := 9) (fr := (0, 0)) (heap_alloc_new wr _)) (by simp [Value.oneCell']) (by omega) (by unfold maxLen; omega) (by omega) (by first | omega | (simp; omega)) _ rfl ?_
            intro gg cap w1 own1 g1 at1 lt1
            have g0 : wr.grownBy _ none := grown_drew (World.grownBy_alloc wr (.cells #[.string ⟨#[101, 110, 100]⟩] 9) none)
            have hb1 : ∀ b, b < w.heap.size + 3 → b < wr.heap.size → w1.heap[b]? = wr.heap[b]? := fun b x y => of_block1 O1.out g0 g1 x y
            have hS1 : (fun w' : World => w'.cell? ⟨w.heap.size + 1 + 1, 0, none⟩ = some vs ∧ w'.cell? ⟨w.heap.size + 1 + 1, 1, none⟩ = some va ∧ w'.cell? ⟨w.heap.size, 4, none⟩ = some (.int .i64 a)) w1 := ⟨by rw [World.cell?_of_block (hb1 (w.heap.size + 1 + 1) (by omega) hbm)]; exact m0, by rw [World.cell?_of_block (hb1 (w.heap.size + 1 + 1) (by omega) hbm)]; exact m1, by rw [World.cell?_of_block (hb1 w.heap.size (by omega) (by omega))]; exact b4⟩
            have hs1 := g1.size
            have hs0 := g0.size
            have hz1 : w.heap.size < w1.heap.size := by omega
            have hz2 : w.heap.size + 1 + 1 < w1.heap.size := by omega
            refine hK _ _ (fun _ => hS1) ?_
            clear hK K
            refine wpAnyJ_take (i := 10) (v := ?v10x207) rfl (by kernel_rfl) (by kernel_rfl) (by kernel_rfl) (by kernel_rfl) (by kernel_rfl) (fun _ _ _ h => h) hS1 (Or.inl ⟨by kernel_rfl, ?hy10x207⟩) ?rest10x207
            case hy10x207 => rintro w0 ⟨g0, g1, g2⟩; go_simp; try with_reducible rfl
            obtain ⟨h0, h1, h4⟩ := id hS1
            refine wpAnyJ_one (j := 8) (by kernel_rfl) rfl ?_
            intro K hK
            go_simp
            refine hK _ _ (fun _ => ⟨by go_simp, by go_simp, by go_simp⟩) ?_
            clear hK K
            clear h0 h1 h4
            have g2 : w1.grownBy _ none := World.grownBy_alloc w1 (.cells #[.int .i64 a] 3) none
            have p2 := of_own2 O2.out O3.out g0 g1 g2
            refine wpAnyJ_one (j := 9) (by kernel_rfl) rfl ?_
            intro K hK
            refine step_append_lies _ (by rfl) _ _ 23 (by rfl) (w.heap.size + 3) 3 j0 (.int .i64 0) 1 8 Tryd.underlying23 hj hy0 hy1 hy2 rfl (by decide) va k ys (by rfl) p2 ⟨w1.heap.size, 0, none⟩ 1 1 [.int .i64 a] (by rfl) (by rfl) (World.news_of_block (cs := #[.int .i64 a]) (t := 3) (fr := (0, 0)) (heap_alloc_new w1 _)) (by simp [Value.oneCell']) (by omega) (by unfold maxLen; omega) (by omega) (by first | omega | (simp; omega)) _ rfl ?_
            intro hh cap2 w2 own2 g3 at2 lt2
            have hb2 : ∀ b, b < w.heap.size + 3 → b < wr.heap.size → w2.heap[b]? = wr.heap[b]? := fun b x y => of_block O1.out O2.out g0 g1 g2 g3 x y
            have c0 : w2.cell? ⟨w.heap.size + 1 + 1, 0, none⟩ = some vs := by rw [World.cell?_of_block (hb2 (w.heap.size + 1 + 1) (by omega) hbm)]; exact m0
            have c1 : w2.cell? ⟨w.heap.size + 1 + 1, 1, none⟩ = some va := by rw [World.cell?_of_block (hb2 (w.heap.size + 1 + 1) (by omega) hbm)]; exact m1
            have c4 : w2.cell? ⟨w.heap.size, 4, none⟩ = some (.int .i64 a) := by rw [World.cell?_of_block (hb2 w.heap.size (by omega) (by omega))]; exact b4
            have d0 : w2.frozen? ⟨w.heap.size + 1 + 1, 0, none⟩ = false := by rw [World.frozen?_of_block (hb2 (w.heap.size + 1 + 1) (by omega) hbm)]; exact f0
            have d1 : w2.frozen? ⟨w.heap.size + 1 + 1, 1, none⟩ = false := by rw [World.frozen?_of_block (hb2 (w.heap.size + 1 + 1) (by omega) hbm)]; exact f1
            have FIN := Lib.hid (of_step OF.out g0 own1 g1 at1 lt1 g2 own2 g3 at2)
            refine hK _ _ (fun _ => ⟨c0, c1, c4⟩) ?_
            clear hK K
            clear hb1 hb2 hS1 own1 g1 at1 g2 p2 own2 g3 at2 g0 c4 b4 m0 m1 f0 f1 hS
            refine wpAnyJ_one (j := 11) (by kernel_rfl) rfl ?_
            intro K hK
            go_simp
            refine hK _ _ (fun h => absurd h (by decide)) ?_
            clear hK K
            refine wpAnyJ_one (j := 12) (by kernel_rfl) rfl ?_
            intro K hK
            go_simp
            refine hK _ _ (fun h => absurd h (by decide)) ?_
            clear hK K
            refine wpAnyJ_one (j := 13) (by kernel_rfl) rfl ?_
            intro K hK
            go_simp
            refine hK _ _ (fun h => absurd h (by decide)) ?_
            clear hK K
            refine wpAnyJ_end (by kernel_rfl) ?_
            have FIN2 := FIN.out
            rw [← HW1.out, ← HI1.out] at FIN2
            clear FIN
            obtain ⟨q, q', g, h, d, d', hv1, hv2, hq, hrow⟩ := of_rows _ HLN.out FIN2
            obtain ⟨o1, o2, o3, o4, ⟨b0, b1, b4⟩, ⟨m0, m1, m2, m3, m4⟩, ⟨f0, f1⟩, rb⟩ := FIN2
            have HROW := Lib.hid hrow
            have HQ := Lib.hid hq
            have O4 := Lib.hid o4
            have HV1 := Lib.hid hv1
            have HV2 := Lib.hid hv2
            clear hrow hq o1 o2 o3 o4 f0 f1 hv1 hv2
            have rc0 := cell_heap rb 0 _ rfl
            have rc1 := cell_heap rb 1 _ rfl
            have rc2 := cell_heap rb 2 _ rfl
            have rc3 := cell_heap rb 3 _ rfl
            have rc4 := cell_heap rb 4 _ rfl
            have rf0 := free_heap rb 0
            have rf1 := free_heap rb 1
            have rf2 := free_heap rb 2
            have rf3 := free_heap rb 3
            have rf4 := free_heap rb 4
            clear rb
            go_wp2
            refine bodyPost_ret (v := .agg #[.slice (some ⟨gg, 0, none⟩) (k + 1) cap, .slice (some ⟨hh, 0, none⟩) (k + 1) cap2, .int .i64 ((e : Int) % 3), .int .i64 cd, .int .i64 a]) (by simp [results, Tryd.results9, go_sem, rc0, rc1, rc2, rc3, rc4]) rfl ?_
            refine ⟨q, q', g, h, d, d', k + 1, by rw [HL.out]; exact HLN.out.symm, by rw [← HV1.out, ← HV2.out], HQ.out, fun hp => ?_, set5_below _ _ _ _ _ O4.out (by omega)⟩
            rw [HL.out]
            exact HROW.out _ (fun b x _ => set5_block _ _ _ _ _ (by omega)) (set5_size _ _ _ _ _) hp
          ·
            intro K hK
            go_simp
            refine hK _ _ (fun _ => ⟨by first | (go_simp; done) | (go_simp; rw [World.cell?_alloc_lt _ _ _ (by simp; omega), World.cell?_alloc_lt _ _ _ (by omega)]; exact m0), by first | (go_simp; done) | (go_simp; rw [World.cell?_alloc_lt _ _ _ (by simp; omega), World.cell?_alloc_lt _ _ _ (by omega)]; exact m1), by first | (go_simp; done) | (go_simp; rw [World.cell?_alloc_lt _ _ _ (by simp; omega), World.cell?_alloc_lt _ _ _ (by omega)]; exact b4)⟩) ?_
            clear hK K
            refine wpAnyJ_one (j := 3) (by kernel_rfl) rfl ?_
            intro K hK
            refine step_append_lies _ (by rfl) _ _ 22 (by rfl) (w.heap.size + 3) 9 i0 (.string ⟨#[]⟩) 1 16 Tryd.underlying22 hi hz0 hzz1 hzz2 rfl (by decide) vs k xs (by rfl) ((O1.out.alloc _).alloc _) ⟨wr.heap.size, 0, none⟩ 1 1 [.string ⟨#[101, 110, 100]⟩] (by rfl) (by rfl) (World.news_of_block (cs := #[.string ⟨#[101, 110, 100]⟩]) (t := 9) (fr := (0, 0)) ((Below.heap_alloc _ _ _ (by simp)).trans (heap_alloc_new wr _))) (by simp [Value.oneCell']) (by omega) (by unfold maxLen; omega) (by omega) (by first | omega | (simp; omega)) _ rfl ?_
            intro gg cap w1 own1 g1 at1 lt1
            have g0 : wr.grownBy _ none := grown_drew ((World.grownBy_alloc wr (.cells #[.string ⟨#[101, 110, 100]⟩] 9) none).trans (World.grownBy_alloc _ (.cells #[.int .i64 a] 3) none))
            have hb1 : ∀ b, b < w.heap.size + 3 → b < wr.heap.size → w1.heap[b]? = wr.heap[b]? := fun b x y => of_block1 O1.out g0 g1 x y
            have hS1 : (fun w' : World => w'.cell? ⟨w.heap.size + 1 + 1, 0, none⟩ = some vs ∧ w'.cell? ⟨w.heap.size + 1 + 1, 1, none⟩ = some va ∧ w'.cell? ⟨w.heap.size, 4, none⟩ = some (.int .i64 a)) w1 := ⟨by rw [World.cell?_of_block (hb1 (w.heap.size + 1 + 1) (by omega) hbm)]; exact m0, by rw [World.cell?_of_block (hb1 (w.heap.size + 1 + 1) (by omega) hbm)]; exact m1, by rw [World.cell?_of_block (hb1 w.heap.size (by omega) (by omega))]; exact b4⟩
            have hs1 := g1.size
            have hs0 := g0.size
            have hz1 : w.heap.size < w1.heap.size := by omega
            have hz2 : w.heap.size + 1 + 1 < w1.heap.size := by omega
            refine hK _ _ (fun _ => hS1) ?_
            clear hK K
            refine wpAnyJ_take (i := 10) (v := ?v10x208) rfl (by kernel_rfl) (by kernel_rfl) (by kernel_rfl) (by kernel_rfl) (by kernel_rfl) (fun _ _ _ h => h) hS1 (Or.inl ⟨by kernel_rfl, ?hy10x208⟩) ?rest10x208
            case hy10x208 => rintro w0 ⟨g0, g1, g2⟩; go_simp; try with_reducible rfl
            have g2 : w1.grownBy _ none := grown_refl w1 none
            have p2 := of_own2 O2.out O3.out g0 g1 g2
            refine wpAnyJ_one (j := 9) (by kernel_rfl) rfl ?_
            intro K hK
            refine step_append_lies _ (by rfl) _ _ 23 (by rfl) (w.heap.size + 3) 3 j0 (.int .i64 0) 1 8 Tryd.underlying23 hj hy0 hy1 hy2 rfl (by decide) va k ys (by rfl) p2 ⟨wr.heap.size + 1, 0, none⟩ 1 1 [.int .i64 a] (by rfl) (by rfl) (World.news_of_block (cs := #[.int .i64 a]) (t := 3) (fr := (0, 0)) ((g1.block (wr.heap.size + 1) (by first | (simp; done) | (simp; omega)) (ne_own O1.out (by omega))).trans (show ((wr.alloc (.cells #[.string ⟨#[101, 110, 100]⟩] 9)).alloc (.cells #[.int .i64 a] 3)).heap[wr.heap.size + 1]? = _ from by have h := heap_alloc_new (wr.alloc (.cells #[.string ⟨#[101, 110, 100]⟩] 9)) (.cells #[.int .i64 a] 3); simpa using h))) (by simp [Value.oneCell']) (by omega) (by unfold maxLen; omega) (by omega) (by first | omega | (simp; omega)) _ rfl ?_
            intro hh cap2 w2 own2 g3 at2 lt2
            have hb2 : ∀ b, b < w.heap.size + 3 → b < wr.heap.size → w2.heap[b]? = wr.heap[b]? := fun b x y => of_block O1.out O2.out g0 g1 g2 g3 x y
            have c0 : w2.cell? ⟨w.heap.size + 1 + 1, 0, none⟩ = some vs := by rw [World.cell?_of_block (hb2 (w.heap.size + 1 + 1) (by omega) hbm)]; exact m0
            have c1 : w2.cell? ⟨w.heap.size + 1 + 1, 1, none⟩ = some va := by rw [World.cell?_of_block (hb2 (w.heap.size + 1 + 1) (by omega) hbm)]; exact m1
            have c4 : w2.cell? ⟨w.heap.size, 4, none⟩ = some (.int .i64 a) := by rw [World.cell?_of_block (hb2 w.heap.size (by omega) (by omega))]; exact b4
            have d0 : w2.frozen? ⟨w.heap.size + 1 + 1, 0, none⟩ = false := by rw [World.frozen?_of_block (hb2 (w.heap.size + 1 + 1) (by omega) hbm)]; exact f0
            have d1 : w2.frozen? ⟨w.heap.size + 1 + 1, 1, none⟩ = false := by rw [World.frozen?_of_block (hb2 (w.heap.size + 1 + 1) (by omega) hbm)]; exact f1
            have FIN := Lib.hid (of_step OF.out g0 own1 g1 at1 lt1 g2 own2 g3 at2)
            refine hK _ _ (fun _ => ⟨c0, c1, c4⟩) ?_
            clear hK K
            clear hb1 hb2 hS1 own1 g1 at1 g2 p2 own2 g3 at2 g0 c4 b4 m0 m1 f0 f1 hS
            refine wpAnyJ_one (j := 11) (by kernel_rfl) rfl ?_
            intro K hK
            go_simp
            refine hK _ _ (fun h => absurd h (by decide)) ?_
            clear hK K
            refine wpAnyJ_one (j := 12) (by kernel_rfl) rfl ?_
            intro K hK
            go_simp
            refine hK _ _ (fun h => absurd h (by decide)) ?_
            clear hK K
            refine wpAnyJ_one (j := 13) (by kernel_rfl) rfl ?_
            intro K hK
            go_simp
            refine hK _ _ (fun h => absurd h (by decide)) ?_
            clear hK K
            refine wpAnyJ_end (by kernel_rfl) ?_
            have FIN2 := FIN.out
            rw [← HW1.out, ← HI1.out] at FIN2
            clear FIN
            obtain ⟨q, q', g, h, d, d', hv1, hv2, hq, hrow⟩ := of_rows _ HLN.out FIN2
            obtain ⟨o1, o2, o3, o4, ⟨b0, b1, b4⟩, ⟨m0, m1, m2, m3, m4⟩, ⟨f0, f1⟩, rb⟩ := FIN2
            have HROW := Lib.hid hrow
            have HQ := Lib.hid hq
            have O4 := Lib.hid o4
            have HV1 := Lib.hid hv1
            have HV2 := Lib.hid hv2
            clear hrow hq o1 o2 o3 o4 f0 f1 hv1 hv2
            have rc0 := cell_heap rb 0 _ rfl
            have rc1 := cell_heap rb 1 _ rfl
            have rc2 := cell_heap rb 2 _ rfl
            have rc3 := cell_heap rb 3 _ rfl
            have rc4 := cell_heap rb 4 _ rfl
            have rf0 := free_heap rb 0
            have rf1 := free_heap rb 1
            have rf2 := free_heap rb 2
            have rf3 := free_heap rb 3
            have rf4 := free_heap rb 4
            clear rb
            go_wp2
            refine bodyPost_ret (v := .agg #[.slice (some ⟨gg, 0, none⟩) (k + 1) cap, .slice (some ⟨hh, 0, none⟩) (k + 1) cap2, .int .i64 ((e : Int) % 3), .int .i64 cd, .int .i64 a]) (by simp [results, Tryd.results9, go_sem, rc0, rc1, rc2, rc3, rc4]) rfl ?_
            refine ⟨q, q', g, h, d, d', k + 1, by rw [HL.out]; exact HLN.out.symm, by rw [← HV1.out, ← HV2.out], HQ.out, fun hp => ?_, set5_below _ _ _ _ _ O4.out (by omega)⟩
            rw [HL.out]
            exact HROW.out _ (fun b x _ => set5_block _ _ _ _ _ (by omega)) (set5_size _ _ _ _ _) hp
        ·
          intro K hK
          go_simp
          refine hK _ _ (fun _ => ⟨by go_simp, by go_simp, by go_simp⟩) ?_
          clear hK K
          refine wpAnyJ_one (j := 2) (by kernel_rfl) rfl ?_
          intro K hK
          go_simp
          refine hK _ _ (fun _ => ⟨by first | (go_simp; done) | (go_simp; rw [World.cell?_alloc_lt _ _ _ (by simp; omega), World.cell?_alloc_lt _ _ _ (by omega)]; exact m0), by first | (go_simp; done) | (go_simp; rw [World.cell?_alloc_lt _ _ _ (by simp; omega), World.cell?_alloc_lt _ _ _ (by omega)]; exact m1), by first | (go_simp; done) | (go_simp; rw [World.cell?_alloc_lt _ _ _ (by simp; omega), World.cell?_alloc_lt _ _ _ (by omega)]; exact b4)⟩) ?_
          clear hK K
          refine wpAnyJ_one (j := 3) (by kernel_rfl) rfl ?_
          intro K hK
          refine step_append_lies _ (by rfl) _ _ 22 (by rfl) (w.heap.size + 3) 9 i0 (.string ⟨#[]⟩) 1 16 Tryd.underlying22 hi hz0 hzz1 hzz2 rfl (by decide) vs k xs (by rfl) ((O1.out.alloc _).alloc _) ⟨wr.heap.size + 1, 0, none⟩ 1 1 [.string ⟨#[101, 110, 100]⟩] (by rfl) (by rfl) (World.news_of_block (cs := #[.string ⟨#[101, 110, 100]⟩]) (t := 9) (fr := (0, 0)) (show ((wr.alloc (.cells #[.int .i64 a] 3)).alloc (.cells #[.string ⟨#[101, 110, 100]⟩] 9)).heap[wr.heap.size + 1]? = _ from by have h := heap_alloc_new (wr.alloc (.cells #[.int .i64 a] 3)) (.cells #[.string ⟨#[101, 110, 100]⟩] 9); simpa using h)) (by simp [Value.oneCell']) (by omega) (by unfold maxLen; omega) (by omega) (by first | omega | (simp; omega)) _ rfl ?_
          intro gg cap w1 own1 g1 at1 lt1
          have g0 : wr.grownBy _ none := grown_drew ((World.grownBy_alloc wr (.cells #[.int .i64 a] 3) none).trans (World.grownBy_alloc _ (.cells #[.string ⟨#[101, 110, 100]⟩] 9) none))
          have hb1 : ∀ b, b < w.heap.size + 3 → b < wr.heap.size → w1.heap[b]? = wr.heap[b]? := fun b x y => of_block1 O1.out g0 g1 x y
          have hS1 : (fun w' : World => w'.cell? ⟨w.heap.size + 1 + 1, 0, none⟩ = some vs ∧ w'.cell? ⟨w.heap.size + 1 + 1, 1, none⟩ = some va ∧ w'.cell? ⟨w.heap.size, 4, none⟩ = some (.int .i64 a)) w1 := ⟨by rw [World.cell?_of_block (hb1 (w.heap.size + 1 + 1) (by omega) hbm)]; exact m0, by rw [World.cell?_of_block (hb1 (w.heap.size + 1 + 1) (by omega) hbm)]; exact m1, by rw [World.cell?_of_block (hb1 w.heap.size (by omega) (by omega))]; exact b4⟩
          have hs1 := g1.size
          have hs0 := g0.size
          have hz1 : w.heap.size < w1.heap.size := by omega
          have hz2 : w.heap.size + 1 + 1 < w1.heap.size := by omega
          refine hK _ _ (fun _ => hS1) ?_
          clear hK K
          refine wpAnyJ_take (i := 10) (v := ?v10x209) rfl (by kernel_rfl) (by kernel_rfl) (by kernel_rfl) (by kernel_rfl) (by kernel_rfl) (fun _ _ _ h => h) hS1 (Or.inl ⟨by kernel_rfl, ?hy10x209⟩) ?rest10x209
          case hy10x209 => rintro w0 ⟨g0, g1, g2⟩; go_simp; try with_reducible rfl
          have g2 : w1.grownBy _ none := grown_refl w1 none
          have p2 := of_own2 O2.out O3.out g0 g1 g2
          refine wpAnyJ_one (j := 9) (by kernel_rfl) rfl ?_
          intro K hK
          refine step_append_lies _ (by rfl) _ _ 23 (by rfl) (w.heap.size + 3) 3 j0 (.int .i64 0) 1 8 Tryd.underlying23 hj hy0 hy1 hy2 rfl (by decide) va k ys (by rfl) p2 ⟨wr.heap.size, 0, none⟩ 1 1 [.int .i64 a] (by rfl) (by rfl) (World.news_of_block (cs := #[.int .i64 a]) (t := 3) (fr := (0, 0)) ((g1.block wr.heap.size (by first | (simp; done) | (simp; omega)) (ne_own O1.out (by omega))).trans ((Below.heap_alloc _ _ _ (by simp)).trans (heap_alloc_new wr _)))) (by simp [Value.oneCell']) (by omega) (by unfold maxLen; omega) (by omega) (by first | omega | (simp; omega)) _ rfl ?_
          intro hh cap2 w2 own2 g3 at2 lt2
          have hb2 : ∀ b, b < w.heap.size + 3 → b < wr.heap.size → w2.heap[b]? = wr.heap[b]? := fun b x y => of_block O1.out O2.out g0 g1 g2 g3 x y
          have c0 : w2.cell? ⟨w.heap.size + 1 + 1, 0, none⟩ = some vs := by rw [World.cell?_of_block (hb2 (w.heap.size + 1 + 1) (by omega) hbm)]; exact m0
          have c1 : w2.cell? ⟨w.heap.size + 1 + 1, 1, none⟩ = some va := by rw [World.cell?_of_block (hb2 (w.heap.size + 1 + 1) (by omega) hbm)]; exact m1
          have c4 : w2.cell? ⟨w.heap.size, 4, none⟩ = some (.int .i64 a) := by rw [World.cell?_of_block (hb2 w.heap.size (by omega) (by omega))]; exact b4
          have d0 : w2.frozen? ⟨w.heap.size + 1 + 1, 0, none⟩ = false := by rw [World.frozen?_of_block (hb2 (w.heap.size + 1 + 1) (by omega) hbm)]; exact f0
          have d1 : w2.frozen? ⟨w.heap.size + 1 + 1, 1, none⟩ = false := by rw [World.frozen?_of_block (hb2 (w.heap.size + 1 + 1) (by omega) hbm)]; exact f1
          have FIN := Lib.hid (of_step OF.out g0 own1 g1 at1 lt1 g2 own2 g3 at2)
          refine hK _ _ (fun _ => ⟨c0, c1, c4⟩) ?_
          clear hK K
          clear hb1 hb2 hS1 own1 g1 at1 g2 p2 own2 g3 at2 g0 c4 b4 m0 m1 f0 f1 hS
          refine wpAnyJ_one (j := 11) (by kernel_rfl) rfl ?_
          intro K hK
          go_simp
          refine hK _ _ (fun h => absurd h (by decide)) ?_
          clear hK K
          refine wpAnyJ_one (j := 12) (by kernel_rfl) rfl ?_
          intro K hK
          go_simp
          refine hK _ _ (fun h => absurd h (by decide)) ?_
          clear hK K
          refine wpAnyJ_one (j := 13) (by kernel_rfl) rfl ?_
          intro K hK
          go_simp
          refine hK _ _ (fun h => absurd h (by decide)) ?_
          clear hK K
          refine wpAnyJ_end (by kernel_rfl) ?_
          have FIN2 := FIN.out
          rw [← HW1.out, ← HI1.out] at FIN2
          clear FIN
          obtain ⟨q, q', g, h, d, d', hv1, hv2, hq, hrow⟩ := of_rows _ HLN.out FIN2
          obtain ⟨o1, o2, o3, o4, ⟨b0, b1, b4⟩, ⟨m0, m1, m2, m3, m4⟩, ⟨f0, f1⟩, rb⟩ := FIN2
          have HROW := Lib.hid hrow
          have HQ := Lib.hid hq
          have O4 := Lib.hid o4
          have HV1 := Lib.hid hv1
          have HV2 := Lib.hid hv2
          clear hrow hq o1 o2 o3 o4 f0 f1 hv1 hv2
          have rc0 := cell_heap rb 0 _ rfl
          have rc1 := cell_heap rb 1 _ rfl
          have rc2 := cell_heap rb 2 _ rfl
          have rc3 := cell_heap rb 3 _ rfl
          have rc4 := cell_heap rb 4 _ rfl
          have rf0 := free_heap rb 0
          have rf1 := free_heap rb 1
          have rf2 := free_heap rb 2
          have rf3 := free_heap rb 3
          have rf4 := free_heap rb 4
          clear rb
          go_wp2
          refine bodyPost_ret (v := .agg #[.slice (some ⟨gg, 0, none⟩) (k + 1) cap, .slice (some ⟨hh, 0, none⟩) (k + 1) cap2, .int .i64 ((e : Int) % 3), .int .i64 cd, .int .i64 a]) (by simp [results, Tryd.results9, go_sem, rc0, rc1, rc2, rc3, rc4]) rfl ?_
          refine ⟨q, q', g, h, d, d', k + 1, by rw [HL.out]; exact HLN.out.symm, by rw [← HV1.out, ← HV2.out], HQ.out, fun hp => ?_, set5_below _ _ _ _ _ O4.out (by omega)⟩
          rw [HL.out]
          exact HROW.out _ (fun b x _ => set5_block _ _ _ _ _ (by omega)) (set5_size _ _ _ _ _) hp
      · have hL : LL W I n' k e a = LK W I n' k := by simp [LL, h0]
        have HL := Lib.hid hL
        have HLN := Lib.hid (LK_len W I n' k)
        obtain ⟨q, q', g, h, d, d', rfl, rfl, hq, hrow⟩ := of_rows (LK W I n' k) HLN.out hof.out
        obtain ⟨o1, o2, o3, o4, ⟨b0, b1, b4⟩, ⟨m0, m1, m2, m3, m4⟩, ⟨f0, f1⟩, rb⟩ := hof.out
        have k5 : (((e : Int) % 3) == 0) = false := by simp; omega
        have HROW := Lib.hid hrow
        have HQ := Lib.hid hq
        have O4 := Lib.hid o4
        have hz := o4.size
        have hbm : w.heap.size + 1 + 1 < wr.heap.size := World.block_lt_of_cell? wr _ m0
        clear hL hrow hq o1 o2 o3 o4 hof h0
        have rc0 := cell_heap rb 0 _ rfl
        have rc1 := cell_heap rb 1 _ rfl
        have rc2 := cell_heap rb 2 _ rfl
        have rc3 := cell_heap rb 3 _ rfl
        have rc4 := cell_heap rb 4 _ rfl
        have rf0 := free_heap rb 0
        have rf1 := free_heap rb 1
        have rf2 := free_heap rb 2
        have rf3 := free_heap rb 3
        have rf4 := free_heap rb 4
        clear rb
        go_wp2
        refine bodyPost_ret (v := .agg #[.slice q k d, .slice q' k d', .int .i64 ((e : Int) % 3), .int .i64 cd, .int .i64 a]) (by simp [results, Tryd.results9, go_sem, rc0, rc1, rc2, rc3, rc4]) rfl ?_
        refine ⟨q, q', g, h, d, d', k, by rw [HL.out]; exact HLN.out.symm, rfl, HQ.out, fun hp => ?_, set5_below _ _ _ _ _ O4.out (by omega)⟩
        rw [HL.out]
        exact HROW.out _ (fun b x _ => set5_block _ _ _ _ _ (by omega)) (set5_size _ _ _ _ _) hp
end Go.Proofs.YtplgcegpmebejaaDoor
