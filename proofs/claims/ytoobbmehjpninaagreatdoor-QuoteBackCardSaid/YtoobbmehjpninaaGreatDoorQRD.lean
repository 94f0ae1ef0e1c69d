/- The walk of the program's ReadDouble. -/
import Derived.Test.YtoobbmehjpninaaGreatDoorQRS
import Derived.Test.YtoobbmehjpninaaGreatDoorQEsc
import Derived.Test.YtoobbmehjpninaaGreatDoorBackD
namespace Go.Proofs.YtoobbmehjpninaaGreatDoor
open Go.RowKit

/-- What ReadDouble answers where the first mark stands. -/
def dblT (s : ByteArray) (p : Nat) : Value := match rdD s s.size (p + 1) with
  | .done l n => gotT l p n
  | .bad i => .tuple #[.string ⟨#[]⟩, .int .i64 0, .agg #[.int .i64 6, .int .i64 i]]
  | .cut => .tuple #[.string ⟨#[]⟩, .int .i64 0, .agg #[.int .i64 3, .int .i64 s.size]]
theorem rune_enc (c : Nat) (h1 : c ≤ 1114111) (h2 : ¬ (55296 ≤ c ∧ c ≤ 57343)) : Lib.runeCells (c : Int) = Lib.byteCells (encB c) := by
  rw [← Lib.byteCells_encodeRune]
  congr 1
  unfold Lib.encodeRune encB
  by_cases k1 : c < 128
  · rw [if_pos k1, Lib.encodeRuneZ_one (by omega) (by omega)]; simp
  rw [if_neg k1]
  by_cases k2 : c < 2048
  · rw [if_pos k2, Lib.encodeRuneZ_two (by omega) (by omega)]
    simp only [List.map_cons, List.map_nil, List.cons.injEq, and_true]
    exact ⟨by rw [show (192 + (c : Int) / 64).toNat = 192 + c / 64 by omega], by rw [show (128 + (c : Int) % 64).toNat = 128 + c % 64 by omega]⟩
  rw [if_neg k2]
  by_cases k3 : c < 65536
  · rw [if_pos k3, Lib.encodeRuneZ_three (by omega)]
    simp only [List.map_cons, List.map_nil, List.cons.injEq, and_true]
    exact ⟨by rw [show (224 + (c : Int) / 4096).toNat = 224 + c / 4096 by omega], by rw [show (128 + (c : Int) / 64 % 64).toNat = 128 + c / 64 % 64 by omega], by rw [show (128 + (c : Int) % 64).toNat = 128 + c % 64 by omega]⟩
  rw [if_neg k3, Lib.encodeRuneZ_four (by omega) (by omega)]
  simp only [List.map_cons, List.map_nil, List.cons.injEq, and_true]
  exact ⟨by rw [show (240 + (c : Int) / 262144).toNat = 240 + c / 262144 by omega], by rw [show (128 + (c : Int) / 4096 % 64).toNat = 128 + c / 4096 % 64 by omega], by rw [show (128 + (c : Int) / 64 % 64).toNat = 128 + c / 64 % 64 by omega], by rw [show (128 + (c : Int) % 64).toNat = 128 + c % 64 by omega]⟩
theorem esc_valid {s : ByteArray} {i : Nat} (h : (escN s i).2 ≠ 0) : ¬ (55296 ≤ (escN s i).1 ∧ (escN s i).1 ≤ 57343) := by
  have hb := bt_lt s (i + 1)
  have r2 := numR_range s (i + 2) 2
  have p2 : (16 : Int) ^ 2 = 256 := by decide
  revert h
  unfold escN
  split
  · intro h; exact absurd rfl h
  · split
    · intro _; simp; omega
    · split
      · intro _; simp
      · split
        · intro _; simp
        · split
          · split
            · intro h; exact absurd rfl h
            · intro _; simp only; omega
          · split
            · split
              · intro h; exact absurd rfl h
              · intro _; simp only; omega
            · intro h; exact absurd rfl h
set_option maxRecDepth 100000 in
set_option maxHeartbeats 4000000 in
theorem readDouble_no (s : ByteArray) (p : Int) (w : World) (h : p < 0 ∨ (s.size : Int) ≤ p ∨ ∃ (i : Nat) (_ : i < s.size), p = i ∧ bt s i ≠ 34) :
    Calls Tryz.prog 8 #[.string s, .int .i64 p] w fun e w' => e = .returned (.tuple #[.string ⟨#[]⟩, .int .i64 0, .agg #[.int .i64 3, .int .i64 p]]) ∧ Below w.heap.size w w' := by
  have HST : ∀ w : World, Calls Tryz.prog 17 #[.string s, .int .i64 p, .int .u8 34] w fun e w' => e = .returned (.bool false) ∧ w = w' := by
    intro w
    rcases h with h | h | ⟨i, hi, rfl, hb⟩
    · exact stands_neg s p 34 w h
    · exact stands_past s p 34 w h
    · have := stands_in s i 34 w hi
      rwa [decide_eq_false hb] at this
  clear h
  go_enter Tryz.func8, Tryz.ntmps8
  go_wp2_with fail
  refine (HST _).mono ?_
  rintro e w0 ⟨rfl, rfl⟩
  go_wp2_with fail
  refine (wrong_any _ _ _).mono ?_
  rintro e w1 ⟨rfl, hb⟩
  have hr1 := (hb.block w.heap.size (by simp)).trans (heap_alloc_new w _)
  have rc0 := cell_heap4 hr1 0 _ rfl
  have rc1 := cell_heap4 hr1 1 _ rfl
  have rf0 := free_heap4 hr1 0
  have rf1 := free_heap4 hr1 1
  have hB := ((Below.refl w.heap.size w).alloc (Nat.le_refl _) _).trans (hb.mono (by simp))
  clear hr1 hb
  go_wp2
  refine bodyPost_ret (v := .tuple #[.string ⟨#[]⟩, .int .i64 0, .agg #[.int .i64 3, .int .i64 p]]) (by simp [results, Tryz.results8, go_sem, rc0, rc1]) rfl ⟨rfl, ?_⟩
  exact (hB.setCell (p := ⟨w.heap.size, 0, none⟩) (Nat.le_refl _) _).setCell (p := ⟨w.heap.size, 1, none⟩) (Nat.le_refl _) _
set_option maxRecDepth 100000 in
set_option maxHeartbeats 8000000 in
theorem readDouble_yes (s : ByteArray) (p : Nat) (w : World) (hs : s.size ≤ 100000) (hp0 : p < s.size) (h34 : bt s p = 34) (hE : ErrCell w) :
    Calls Tryz.prog 8 #[.string s, .int .i64 p] w fun e w' => e = .returned (dblT s p) ∧ Below w.heap.size w w' := by
  have HST := stands_any s p 34
  have hst : stB s p 34 = true := decide_eq_true ⟨hp0, h34⟩
  rw [hst] at HST
  have hI0 := Lib.IsBuilderF.of (Lib.fresh_isBuilder 41 5 (w.alloc (.cells #[.int .i64 0, .int .i64 0] 29)))
  have hz1 : (w.alloc (.cells #[.int .i64 0, .int .i64 0] 29)).heap.size = w.heap.size + 1 := by simp
  rw [hz1] at hI0
  clear hst h34
  go_enter Tryz.func8, Tryz.ntmps8
  go_wp2_with fail
  refine (HST _).mono ?_
  rintro e w0 ⟨rfl, rfl⟩
  clear HST
  go_wp2
  go_loopw [8] (fun j wr => ∃ (i f : Nat) (o : List UInt8), j = .int .i64 i ∧ i ≤ s.size ∧ s.size ≤ i + f ∧ o.length ≤ 4 * i ∧ Hid ((rdD s f i).pre o = rdD s s.size (p + 1)) ∧ Lib.IsBuilderF 41 5 (w.heap.size + 1) (w.heap.size + 1) (Lib.byteCells o) wr ∧ Below w.heap.size w wr ∧ Hid (wr.heap[w.heap.size]? = some (.cells #[.int .i64 0, .int .i64 0] 29)) ∧ w.heap.size + 1 < wr.heap.size) (fun j _ => s.size - (intOf j).toNat)
  case atStart => exact ⟨p + 1, s.size, [], by go_num, by omega, by omega, by simp, Lib.hid (DOut.pre_nil _), hI0, ((Below.refl _ _).alloc (Nat.le_refl _) _).alloc (by simp) _, Lib.hid ((Lib.alloc_old _ _ _ (by simp)).trans (heap_alloc_new w _)), by simp⟩
  case round =>
    obtain ⟨i, f, o, rfl, hi', hf, hol, hpp, hI, hb, hres, hwl1⟩ := hrel
    have hwl : w.heap.size < wr.heap.size := by omega
    by_cases hlt : i < s.size
    · obtain ⟨f, rfl⟩ : ∃ g, f = g + 1 := ⟨f - 1, by omega⟩
      have hsz0 : w.heap.size + 1 ≤ wr.heap.size := by omega
      have hbg := bt_get s i hlt
      by_cases h34 : bt s i = 34
      · have q1 : ((s[i].toNat : Int) == 34) = true := by simp only [beq_iff_eq]; omega
        have HS := Lib.hid (show dblT s p = gotT o p ((i + 1 : Nat) : Int) by unfold dblT; rw [← hpp.out, rdD_stop hlt h34]; simp [DOut.pre])
        clear hpp h34 hbg
        go_wp2_with (go_at_call 20; refine (Tryz.Builder_String_any_k (w.heap.size + 1) (w.heap.size + 1) o _ hI hsz0).mono ?_)
        rintro e w2 ⟨rfl, _, b2, _⟩
        have hb2 := hb.trans (b2.mono (Nat.le_succ _))
        have hr2 := (b2.block w.heap.size (Nat.lt_succ_self _)).trans hres.out
        have hw2 : w.heap.size < w2.heap.size := (Array.getElem?_eq_some_iff.1 hr2).1
        have HR2 := Lib.hid hr2
        clear b2 hr2
        by_cases h1024 : 1024 < o.length
        · have HG := Lib.hid (show gotT o p ((i + 1 : Nat) : Int) = .tuple #[.string ⟨#[]⟩, .int .i64 0, .agg #[.int .i64 5, .int .i64 p]] by unfold gotT; rw [if_pos h1024])
          go_wp2_with fail
          refine (read_any o p ((i + 1 : Nat) : Int) w2 (by omega)).mono ?_
          rintro x w3 ⟨rfl, hb3⟩
          rw [HG.out]
          have hr3 := (hb3.block w.heap.size hw2).trans HR2.out
          have rc0 := cell_heap4 hr3 0 _ rfl
          have rc1 := cell_heap4 hr3 1 _ rfl
          have rf0 := free_heap4 hr3 0
          have rf1 := free_heap4 hr3 1
          have hB := hb2.trans (hb3.mono hb2.size)
          clear hr3 hb3
          go_wp2
          refine bodyPost_ret (v := .tuple #[.string ⟨#[]⟩, .int .i64 0, .agg #[.int .i64 5, .int .i64 p]]) (by simp [results, Tryz.results8, go_sem, rc0, rc1]) rfl ⟨by rw [HS.out, HG.out], ?_⟩
          exact (hB.setCell (p := ⟨w.heap.size, 0, none⟩) (Nat.le_refl _) _).setCell (p := ⟨w.heap.size, 1, none⟩) (Nat.le_refl _) _
        · have HG := Lib.hid (show gotT o p ((i + 1 : Nat) : Int) = .tuple #[.string ⟨o.toArray⟩, .int .i64 ((i + 1 : Nat) : Int), .agg #[.int .i64 0, .int .i64 0]] by unfold gotT; rw [if_neg h1024])
          go_wp2_with fail
          refine (read_any o p ((i + 1 : Nat) : Int) w2 (by omega)).mono ?_
          rintro x w3 ⟨rfl, hb3⟩
          rw [HG.out]
          have hr3 := (hb3.block w.heap.size hw2).trans HR2.out
          have rc0 := cell_heap4 hr3 0 _ rfl
          have rc1 := cell_heap4 hr3 1 _ rfl
          have rf0 := free_heap4 hr3 0
          have rf1 := free_heap4 hr3 1
          have hB := hb2.trans (hb3.mono hb2.size)
          clear hr3 hb3
          go_wp2
          refine bodyPost_ret (v := .tuple #[.string ⟨o.toArray⟩, .int .i64 ((i + 1 : Nat) : Int), .agg #[.int .i64 0, .int .i64 0]]) (by simp [results, Tryz.results8, go_sem, rc0, rc1]) rfl ⟨by rw [HS.out, HG.out], ?_⟩
          exact (hB.setCell (p := ⟨w.heap.size, 0, none⟩) (Nat.le_refl _) _).setCell (p := ⟨w.heap.size, 1, none⟩) (Nat.le_refl _) _
      have q1 : ((s[i].toNat : Int) == 34) = false := by simp only [beq_eq_false_iff_ne, ne_eq]; omega
      by_cases h92 : bt s i = 92
      · have q2 : ((s[i].toNat : Int) == 92) = true := by simp only [beq_iff_eq]; omega
        have hX := escape_prog s i wr hlt hs (err_below hE hb)
        by_cases h0 : (escN s i).2 = 0
        · have he : esT s i = .tuple #[.int .i32 0, .int .i64 0, .bool false] := by unfold esT; rw [if_pos h0]
          rw [he] at hX
          have HS := Lib.hid (show dblT s p = .tuple #[.string ⟨#[]⟩, .int .i64 0, .agg #[.int .i64 6, .int .i64 i]] by
            unfold dblT; rw [← hpp.out, rdD_bad hlt h92 h0]; rfl)
          clear hpp h92 h34 hbg he h0 hI
          go_wp2_with (go_at_call 23; refine hX.mono ?_)
          rintro e w1 ⟨rfl, hb1⟩
          have hres1 := Lib.hid ((hb1.block w.heap.size hwl).trans hres.out)
          have hwl2 : w.heap.size < w1.heap.size := by have := hb1.size; omega
          have hbb := hb.trans (hb1.mono hb.size)
          clear hb1 hres hb
          go_wp2_with fail
          refine (wrong_any _ _ _).mono ?_
          rintro x w3 ⟨rfl, hb3⟩
          have hr3 := (hb3.block w.heap.size hwl2).trans hres1.out
          have rc0 := cell_heap4 hr3 0 _ rfl
          have rc1 := cell_heap4 hr3 1 _ rfl
          have rf0 := free_heap4 hr3 0
          have rf1 := free_heap4 hr3 1
          have hB := hbb.trans (hb3.mono hbb.size)
          clear hr3 hb3
          go_wp2
          refine bodyPost_ret (v := .tuple #[.string ⟨#[]⟩, .int .i64 0, .agg #[.int .i64 6, .int .i64 i]]) (by simp [results, Tryz.results8, go_sem, rc0, rc1]) rfl ⟨by rw [HS.out], ?_⟩
          exact (hB.setCell (p := ⟨w.heap.size, 0, none⟩) (Nat.le_refl _) _).setCell (p := ⟨w.heap.size, 1, none⟩) (Nat.le_refl _) _
        · have he : esT s i = .tuple #[.int .i32 (escN s i).1, .int .i64 ((escN s i).2 - 1), .bool true] := by unfold esT; rw [if_neg h0]
          rw [he] at hX
          have hv := esc_valid h0
          rcases esc_range hlt with hz | ⟨m2, m6, c0, c1, hle⟩
          · exact absurd hz h0
          have hesc := rdD_esc (f := f) hlt h92 h0
          obtain ⟨cm, hcm⟩ : ∃ cm, escN s i = cm := ⟨_, rfl⟩
          rw [hcm] at hX hv m2 m6 c0 c1 hle hesc
          obtain ⟨c', m'⟩ := cm
          simp only at hX hv m2 m6 c0 c1 hle hesc
          obtain ⟨c, rfl⟩ : ∃ c : Nat, c' = c := ⟨c'.toNat, by omega⟩
          obtain ⟨m, rfl⟩ : ∃ m : Nat, m' = m := ⟨m'.toNat, by omega⟩
          simp only [Int.toNat_natCast] at hle hesc
          have HP := Lib.hid (show (rdD s f (i + m)).pre (o ++ encB c) = rdD s s.size (p + 1) by rw [← hpp.out, hesc, DOut.pre_pre])
          have hrc := rune_enc c (by omega) (by omega)
          have hel := encB_len c
          have cz0 : (-2147483648 : Int) ≤ c := by omega
          have cz1 : (c : Int) ≤ 2147483647 := by omega
          have mz : 2 ≤ m := by omega
          have mz6 : m ≤ 6 := by omega
          clear hpp h92 h34 hbg he h0 hcm hesc hv m2 m6 c0 c1
          go_wp2_with (go_at_call 23; refine hX.mono ?_)
          rintro e w1 ⟨rfl, hb1⟩
          have hI1 := isB_below hI hb1
          have hres1 := Lib.hid ((hb1.block w.heap.size hwl).trans hres.out)
          have hsz1 : w.heap.size + 1 ≤ w1.heap.size := by have := hb1.size; omega
          have hbb := hb.trans (hb1.mono hb.size)
          clear hb1 hres hb hI hX
          go_wp2_with (go_at_call 24; refine (Tryz.Builder_WriteRune_k (w.heap.size + 1) (w.heap.size + 1) _ _ cz0 cz1 _ hI1 (by rw [Lib.byteCells_length]; omega) hsz1).mono ?_)
          rintro e w2 ⟨rfl, h2, b2, _⟩
          have hI2 : Lib.IsBuilderF 41 5 (w.heap.size + 1) (w.heap.size + 1) (Lib.byteCells (o ++ encB c)) w2 := by rw [Lib.byteCells_append, ← hrc]; exact .inr h2
          have hb2 := hbb.trans (b2.mono (Nat.le_succ _))
          have hres2 := Lib.hid ((b2.block w.heap.size (Nat.lt_succ_self _)).trans hres1.out)
          have hw2 : w.heap.size + 1 < w2.heap.size := isB_lt hI2
          clear b2 h2
          go_wp2
          go_roundw
          case rel => exact ⟨i + m, f, o ++ encB c, by go_num, by omega, by omega, by simp; omega, HP, hI2, hb2, hres2, hw2⟩
          case measure => simp [intOf]; omega
      · have q2 : ((s[i].toNat : Int) == 92) = false := by simp only [beq_eq_false_iff_ne, ne_eq]; omega
        have HP := Lib.hid (show (rdD s f (i + 1)).pre (o ++ [s[i]]) = rdD s s.size (p + 1) by
          rw [← hpp.out, rdD_one hlt h34 h92, DOut.pre_pre])
        clear hpp h92 h34 hbg
        go_wp2_with (go_at_call 21; refine (Tryz.Builder_WriteByte_k (w.heap.size + 1) (w.heap.size + 1) _ _ _ hI (by rw [Lib.byteCells_length]; omega) hsz0).mono ?_)
        rintro e w2 ⟨rfl, h2, b2, _⟩
        have hI2 : Lib.IsBuilderF 41 5 (w.heap.size + 1) (w.heap.size + 1) (Lib.byteCells (o ++ [s[i]])) w2 := by rw [Lib.byteCells_append]; exact .inr h2
        have hb2 := hb.trans (b2.mono (Nat.le_succ _))
        have hres2 := Lib.hid ((b2.block w.heap.size (Nat.lt_succ_self _)).trans hres.out)
        have hw2 : w.heap.size + 1 < w2.heap.size := isB_lt hI2
        clear b2 h2
        go_wp2
        go_roundw
        case rel => exact ⟨i + 1, f, o ++ [s[i]], by go_num, by omega, by omega, by simp; omega, HP, hI2, hb2, hres2, hw2⟩
        case measure => simp [intOf]; omega
    · have HS := Lib.hid (show dblT s p = .tuple #[.string ⟨#[]⟩, .int .i64 0, .agg #[.int .i64 3, .int .i64 s.size]] by
        unfold dblT; rw [← hpp.out, rdD_end s f i (by omega)]; rfl)
      clear hpp
      go_wp2_with fail
      refine (wrong_any _ _ _).mono ?_
      rintro x w3 ⟨rfl, hb3⟩
      have hr3 := (hb3.block w.heap.size hwl).trans hres.out
      have rc0 := cell_heap4 hr3 0 _ rfl
      have rc1 := cell_heap4 hr3 1 _ rfl
      have rf0 := free_heap4 hr3 0
      have rf1 := free_heap4 hr3 1
      have hB := hb.trans (hb3.mono hb.size)
      clear hr3 hb3
      go_wp2
      refine bodyPost_ret (v := .tuple #[.string ⟨#[]⟩, .int .i64 0, .agg #[.int .i64 3, .int .i64 s.size]]) (by simp [results, Tryz.results8, go_sem, rc0, rc1]) rfl ⟨by rw [HS.out], ?_⟩
      exact (hB.setCell (p := ⟨w.heap.size, 0, none⟩) (Nat.le_refl _) _).setCell (p := ⟨w.heap.size, 1, none⟩) (Nat.le_refl _) _
end Go.Proofs.YtoobbmehjpninaaGreatDoor
