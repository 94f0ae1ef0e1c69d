/- The walks of the program's stands, wrong, read, ReadSingle. -/
import Derived.Test.YtoobbmehjpninaaGreatDoorRSingleP
import Derived.Test.YtoobbmehjpninaaGreatDoorBackS
import Derived.Test.YtoobbmehjpninaaGreatDoorQDbl
namespace Go.Proofs.YtoobbmehjpninaaGreatDoor
open Go.RowKit

theorem stands_neg (s : ByteArray) (i : Int) (m : Nat) (w : World) (h : i < 0) :
    Calls Tryz.prog 17 #[.string s, .int .i64 i, .int .u8 m] w fun e w' => e = .returned (.bool false) ∧ w = w' := by
  have d1 : decide (0 ≤ i) = false := decide_eq_false (by omega)
  go_enter Tryz.func17, Tryz.ntmps17
  go_wp2
  go_ret
  exact ⟨rfl, rfl⟩
theorem stands_past (s : ByteArray) (i : Int) (m : Nat) (w : World) (h : (s.size : Int) ≤ i) :
    Calls Tryz.prog 17 #[.string s, .int .i64 i, .int .u8 m] w fun e w' => e = .returned (.bool false) ∧ w = w' := by
  have h0 : 0 ≤ i := by omega
  have d1 : decide (0 ≤ i) = true := decide_eq_true h0
  have d2 : decide (i < (s.size : Int)) = false := decide_eq_false (by omega)
  go_enter Tryz.func17, Tryz.ntmps17
  go_wp2
  go_ret
  exact ⟨rfl, rfl⟩
theorem stands_in (s : ByteArray) (i : Nat) (m : Nat) (w : World) (h : i < s.size) :
    Calls Tryz.prog 17 #[.string s, .int .i64 i, .int .u8 m] w fun e w' => e = .returned (.bool (decide (bt s i = m))) ∧ w = w' := by
  have hg := bt_get s i h
  have HG := Lib.hid (show decide (bt s i = m) = ((s[i].toNat : Int) == (m : Int)) by
    rw [← hg]
    rw [Bool.eq_iff_iff]; simp; omega)
  clear hg
  go_enter Tryz.func17, Tryz.ntmps17
  go_wp2
  go_ret
  exact ⟨ret_bool HG.out.symm, rfl⟩
/-- Does the mark stand there? -/
def stB (s : ByteArray) (i m : Nat) : Bool := decide (i < s.size ∧ bt s i = m)
theorem stands_any (s : ByteArray) (i m : Nat) (w : World) :
    Calls Tryz.prog 17 #[.string s, .int .i64 i, .int .u8 m] w fun e w' => e = .returned (.bool (stB s i m)) ∧ w = w' := by
  unfold stB
  by_cases h : i < s.size
  · rw [show decide (i < s.size ∧ bt s i = m) = decide (bt s i = m) by simp [h]]
    exact stands_in s i m w h
  · rw [show decide (i < s.size ∧ bt s i = m) = false by simp [h]]
    exact stands_past s i m w (by omega)

set_option maxRecDepth 100000 in
set_option maxHeartbeats 1000000 in
theorem wrong_any (c p : Int) (w : World) :
    Calls Tryz.prog 18 #[.int .i64 c, .int .i64 p] w fun e w' => e = .returned (.tuple #[.string ⟨#[]⟩, .int .i64 0, .agg #[.int .i64 c, .int .i64 p]]) ∧ Below w.heap.size w w' := by
  go_enter Tryz.func18, Tryz.ntmps18
  go_wp2
  refine bodyPost_ret (v := .tuple #[.string ⟨#[]⟩, .int .i64 0, .agg #[.int .i64 c, .int .i64 p]]) (by simp [results, Tryz.results18, go_sem]) rfl ⟨rfl, ?_⟩
  exact (((Below.refl _ _).alloc (Nat.le_refl _) _))

def gotT (l : List UInt8) (p n : Int) : Value := if 1024 < l.length then .tuple #[.string ⟨#[]⟩, .int .i64 0, .agg #[.int .i64 5, .int .i64 p]] else .tuple #[.string ⟨l.toArray⟩, .int .i64 n, .agg #[.int .i64 0, .int .i64 0]]
set_option maxRecDepth 100000 in
set_option maxHeartbeats 1000000 in
theorem read_any (l : List UInt8) (p n : Int) (w : World) (hl : l.length ≤ 1000000) :
    Calls Tryz.prog 19 #[.string ⟨l.toArray⟩, .int .i64 p, .int .i64 n] w fun e w' => e = .returned (gotT l p n) ∧ Below w.heap.size w w' := by
  have hz : (⟨l.toArray⟩ : ByteArray).size = l.length := rfl
  by_cases h : 1024 < l.length
  · have HG := Lib.hid (show gotT l p n = .tuple #[.string ⟨#[]⟩, .int .i64 0, .agg #[.int .i64 5, .int .i64 p]] by unfold gotT; rw [if_pos h])
    go_enter Tryz.func19, Tryz.ntmps19
    go_wp2_with fail
    refine (wrong_any _ _ _).mono ?_
    rintro e w1 ⟨rfl, hb⟩
    have hr1 := (hb.block w.heap.size (by simp)).trans (heap_alloc_new w _)
    have rc0 := cell_heap4 hr1 0 _ rfl
    have rc1 := cell_heap4 hr1 1 _ rfl
    have rf0 := free_heap4 hr1 0
    have rf1 := free_heap4 hr1 1
    have hB := ((Below.refl w.heap.size w).alloc (Nat.le_refl _) _).trans (hb.mono (by simp))
    clear hr1 hb
    go_wp2
    refine bodyPost_ret (v := .tuple #[.string ⟨#[]⟩, .int .i64 0, .agg #[.int .i64 5, .int .i64 p]]) (by simp [results, Tryz.results19, go_sem, rc0, rc1]) rfl ⟨by rw [HG.out], ?_⟩
    exact (hB.setCell (p := ⟨w.heap.size, 0, none⟩) (Nat.le_refl _) _).setCell (p := ⟨w.heap.size, 1, none⟩) (Nat.le_refl _) _
  · have HG := Lib.hid (show gotT l p n = .tuple #[.string ⟨l.toArray⟩, .int .i64 n, .agg #[.int .i64 0, .int .i64 0]] by unfold gotT; rw [if_neg h])
    have h' : l.length ≤ 1024 := by omega
    clear h
    go_enter Tryz.func19, Tryz.ntmps19
    go_wp2
    refine bodyPost_ret (v := .tuple #[.string ⟨l.toArray⟩, .int .i64 n, .agg #[.int .i64 0, .int .i64 0]]) (by simp [results, Tryz.results19, go_sem]) rfl ⟨by rw [HG.out], ?_⟩
    exact (Below.refl _ _).alloc (Nat.le_refl _) _

/-- What ReadSingle answers where the first mark stands. -/
def sglT (s : ByteArray) (p : Nat) : Value := match rdS s s.size (p + 1) with
  | some (l, n) => gotT l p n
  | none => .tuple #[.string ⟨#[]⟩, .int .i64 0, .agg #[.int .i64 3, .int .i64 s.size]]
set_option maxRecDepth 100000 in
set_option maxHeartbeats 4000000 in
theorem readSingle_no (s : ByteArray) (p : Int) (w : World) (h : p < 0 ∨ (s.size : Int) ≤ p ∨ ∃ (i : Nat) (_ : i < s.size), p = i ∧ bt s i ≠ 39) :
    Calls Tryz.prog 6 #[.string s, .int .i64 p] w fun e w' => e = .returned (.tuple #[.string ⟨#[]⟩, .int .i64 0, .agg #[.int .i64 3, .int .i64 p]]) ∧ Below w.heap.size w w' := by
  have HST : ∀ w : World, Calls Tryz.prog 17 #[.string s, .int .i64 p, .int .u8 39] w fun e w' => e = .returned (.bool false) ∧ w = w' := by
    intro w
    rcases h with h | h | ⟨i, hi, rfl, hb⟩
    · exact stands_neg s p 39 w h
    · exact stands_past s p 39 w h
    · have := stands_in s i 39 w hi
      rwa [decide_eq_false hb] at this
  clear h
  go_enter Tryz.func6, Tryz.ntmps6
  go_wp2_with fail
  refine (HST _).mono ?_
  rintro e w0 ⟨rfl, rfl⟩
  go_wp2_with fail
  refine (wrong_any _ _ _).mono ?_
  rintro e w1 ⟨rfl, hb⟩
  have hr1 := (hb.block w.heap.size (by simp)).trans (heap_alloc_new w _)
  have rc0 := cell_heap4 hr1 0 _ rfl
  have rc1 := cell_heap4 hr1 1 _ rfl
  have rf0 := free_heap4 hr1 0
  have rf1 := free_heap4 hr1 1
  have hB := ((Below.refl w.heap.size w).alloc (Nat.le_refl _) _).trans (hb.mono (by simp))
  clear hr1 hb
  go_wp2
  refine bodyPost_ret (v := .tuple #[.string ⟨#[]⟩, .int .i64 0, .agg #[.int .i64 3, .int .i64 p]]) (by simp [results, Tryz.results6, go_sem, rc0, rc1]) rfl ⟨rfl, ?_⟩
  exact (hB.setCell (p := ⟨w.heap.size, 0, none⟩) (Nat.le_refl _) _).setCell (p := ⟨w.heap.size, 1, none⟩) (Nat.le_refl _) _
set_option maxRecDepth 100000 in
set_option maxHeartbeats 8000000 in
theorem readSingle_yes (s : ByteArray) (p : Nat) (w : World) (hs : s.size ≤ 100000) (hp0 : p < s.size) (h39 : bt s p = 39) :
    Calls Tryz.prog 6 #[.string s, .int .i64 p] w fun e w' => e = .returned (sglT s p) ∧ Below w.heap.size w w' := by
  have HST := stands_any s p 39
  have hst : stB s p 39 = true := decide_eq_true ⟨hp0, h39⟩
  rw [hst] at HST
  have hI0 := Lib.IsBuilderF.of (Lib.fresh_isBuilder 41 5 (w.alloc (.cells #[.int .i64 0, .int .i64 0] 29)))
  have hz1 : (w.alloc (.cells #[.int .i64 0, .int .i64 0] 29)).heap.size = w.heap.size + 1 := by simp
  rw [hz1] at hI0
  clear hst h39
  go_enter Tryz.func6, Tryz.ntmps6
  go_wp2_with fail
  refine (HST _).mono ?_
  rintro e w0 ⟨rfl, rfl⟩
  clear HST
  go_wp2
  go_loopw [8] (fun j wr => ∃ (i f : Nat) (o : List UInt8), j = .int .i64 i ∧ i ≤ s.size ∧ s.size ≤ i + f ∧ o.length ≤ i ∧ Hid (pre o (rdS s f i) = rdS s s.size (p + 1)) ∧ Lib.IsBuilderF 41 5 (w.heap.size + 1) (w.heap.size + 1) (Lib.byteCells o) wr ∧ Below w.heap.size w wr ∧ Hid (wr.heap[w.heap.size]? = some (.cells #[.int .i64 0, .int .i64 0] 29)) ∧ w.heap.size + 1 < wr.heap.size) (fun j _ => s.size - (intOf j).toNat)
  case atStart => exact ⟨p + 1, s.size, [], by go_num, by omega, by omega, by simp, Lib.hid (by cases rdS s s.size (p + 1) <;> simp [pre]), hI0, ((Below.refl _ _).alloc (Nat.le_refl _) _).alloc (by simp) _, Lib.hid ((Lib.alloc_old _ _ _ (by simp)).trans (heap_alloc_new w _)), by simp⟩
  case round =>
    obtain ⟨i, f, o, rfl, hi', hf, hol, hpp, hI, hb, hres, hwl1⟩ := hrel
    have hwl : w.heap.size < wr.heap.size := by omega
    by_cases hlt : i < s.size
    · obtain ⟨f, rfl⟩ : ∃ g, f = g + 1 := ⟨f - 1, by omega⟩
      have hsz0 : w.heap.size + 1 ≤ wr.heap.size := by omega
      by_cases h39 : bt s i = 39
      · have q1 : ((s[i].toNat : Int) == 39) = true := by
          have e := bt_get s i hlt
          simp only [beq_iff_eq]; omega
        by_cases hn : i + 1 < s.size ∧ bt s (i + 1) = 39
        · obtain ⟨hn1, hn2⟩ := hn
          have HST := stands_any s (i + 1) 39
          have hst : stB s (i + 1) 39 = true := decide_eq_true ⟨hn1, hn2⟩
          rw [hst] at HST
          have hg2 := bt_get s (i + 1) hn1
          have e39 : s[i + 1] = 39 := UInt8.toNat_inj.1 (by rw [hg2, hn2]; rfl)
          have HP := Lib.hid (show pre (o ++ [s[i + 1]]) (rdS s f (i + 2)) = rdS s s.size (p + 1) by
            rw [← hpp.out, rdS_two hlt h39 hn1 hn2, pre_pre, e39])
          clear hst hpp h39 hn2 hg2 e39
          go_wp2_with fail
          refine (HST _).mono ?_
          rintro e w1 ⟨rfl, rfl⟩
          clear HST
          go_wp2_with (go_at_call 21; refine (Tryz.Builder_WriteByte_k (w.heap.size + 1) (w.heap.size + 1) _ _ _ hI (by rw [Lib.byteCells_length]; omega) hsz0).mono ?_)
          rintro e w2 ⟨rfl, h2, b2, _⟩
          have hI2 : Lib.IsBuilderF 41 5 (w.heap.size + 1) (w.heap.size + 1) (Lib.byteCells (o ++ [s[i + 1]])) w2 := by rw [Lib.byteCells_append]; exact .inr h2
          have hb2 := hb.trans (b2.mono (Nat.le_succ _))
          have hres2 := Lib.hid ((b2.block w.heap.size (Nat.lt_succ_self _)).trans hres.out)
          have hw2 : w.heap.size + 1 < w2.heap.size := isB_lt hI2
          clear b2 h2 hres hI hb
          go_wp2
          go_roundw
          case rel => exact ⟨i + 2, f, o ++ [s[i + 1]], by go_num, by omega, by omega, by simp; omega, HP, hI2, hb2, hres2, hw2⟩
          case measure => simp [intOf]; omega
        · have HST := stands_any s (i + 1) 39
          have hst : stB s (i + 1) 39 = false := decide_eq_false hn
          rw [hst] at HST
          have HS := Lib.hid (show sglT s p = gotT o p ((i + 1 : Nat) : Int) by
            unfold sglT; rw [← hpp.out, rdS_stop hlt h39 hn]; simp [pre])
          clear hst hpp h39 hn
          go_wp2_with fail
          refine (HST _).mono ?_
          rintro e w1 ⟨rfl, rfl⟩
          clear HST
          have hsz0 : w.heap.size + 1 ≤ wr.heap.size := by omega
          go_wp2_with (go_at_call 20; refine (Tryz.Builder_String_any_k (w.heap.size + 1) (w.heap.size + 1) o _ hI hsz0).mono ?_)
          rintro e w2 ⟨rfl, _, b2, _⟩
          have hb2 := hb.trans (b2.mono (Nat.le_succ _))
          have hr2 := (b2.block w.heap.size (Nat.lt_succ_self _)).trans hres.out
          have hw2 : w.heap.size < w2.heap.size := (Array.getElem?_eq_some_iff.1 hr2).1
          have HR2 := Lib.hid hr2
          clear b2 hr2
          by_cases h1024 : 1024 < o.length
          · have HG := Lib.hid (show gotT o p ((i + 1 : Nat) : Int) = .tuple #[.string ⟨#[]⟩, .int .i64 0, .agg #[.int .i64 5, .int .i64 p]] by unfold gotT; rw [if_pos h1024])
            go_wp2_with fail
            refine (read_any o p ((i + 1 : Nat) : Int) w2 (by omega)).mono ?_
            rintro x w3 ⟨rfl, hb3⟩
            rw [HG.out]
            have hr3 := (hb3.block w.heap.size hw2).trans HR2.out
            have rc0 := cell_heap4 hr3 0 _ rfl
            have rc1 := cell_heap4 hr3 1 _ rfl
            have rf0 := free_heap4 hr3 0
            have rf1 := free_heap4 hr3 1
            have hB := hb2.trans (hb3.mono hb2.size)
            clear hr3 hb3
            go_wp2
            refine bodyPost_ret (v := .tuple #[.string ⟨#[]⟩, .int .i64 0, .agg #[.int .i64 5, .int .i64 p]]) (by simp [results, Tryz.results6, go_sem, rc0, rc1]) rfl ⟨by rw [HS.out, HG.out], ?_⟩
            exact (hB.setCell (p := ⟨w.heap.size, 0, none⟩) (Nat.le_refl _) _).setCell (p := ⟨w.heap.size, 1, none⟩) (Nat.le_refl _) _
          · have HG := Lib.hid (show gotT o p ((i + 1 : Nat) : Int) = .tuple #[.string ⟨o.toArray⟩, .int .i64 ((i + 1 : Nat) : Int), .agg #[.int .i64 0, .int .i64 0]] by unfold gotT; rw [if_neg h1024])
            go_wp2_with fail
            refine (read_any o p ((i + 1 : Nat) : Int) w2 (by omega)).mono ?_
            rintro x w3 ⟨rfl, hb3⟩
            rw [HG.out]
            have hr3 := (hb3.block w.heap.size hw2).trans HR2.out
            have rc0 := cell_heap4 hr3 0 _ rfl
            have rc1 := cell_heap4 hr3 1 _ rfl
            have rf0 := free_heap4 hr3 0
            have rf1 := free_heap4 hr3 1
            have hB := hb2.trans (hb3.mono hb2.size)
            clear hr3 hb3
            go_wp2
            refine bodyPost_ret (v := .tuple #[.string ⟨o.toArray⟩, .int .i64 ((i + 1 : Nat) : Int), .agg #[.int .i64 0, .int .i64 0]]) (by simp [results, Tryz.results6, go_sem, rc0, rc1]) rfl ⟨by rw [HS.out, HG.out], ?_⟩
            exact (hB.setCell (p := ⟨w.heap.size, 0, none⟩) (Nat.le_refl _) _).setCell (p := ⟨w.heap.size, 1, none⟩) (Nat.le_refl _) _
      · have q1 : ((s[i].toNat : Int) == 39) = false := by
          have e := bt_get s i hlt
          simp only [beq_eq_false_iff_ne, ne_eq]; omega
        have HP := Lib.hid (show pre (o ++ [s[i]]) (rdS s f (i + 1)) = rdS s s.size (p + 1) by
          rw [← hpp.out, rdS_one hlt h39, pre_pre])
        clear hpp h39
        go_wp2_with (go_at_call 21; refine (Tryz.Builder_WriteByte_k (w.heap.size + 1) (w.heap.size + 1) _ _ _ hI (by rw [Lib.byteCells_length]; omega) hsz0).mono ?_)
        rintro e w2 ⟨rfl, h2, b2, _⟩
        have hI2 : Lib.IsBuilderF 41 5 (w.heap.size + 1) (w.heap.size + 1) (Lib.byteCells (o ++ [s[i]])) w2 := by rw [Lib.byteCells_append]; exact .inr h2
        have hb2 := hb.trans (b2.mono (Nat.le_succ _))
        have hres2 := Lib.hid ((b2.block w.heap.size (Nat.lt_succ_self _)).trans hres.out)
        have hw2 : w.heap.size + 1 < w2.heap.size := isB_lt hI2
        clear b2 h2 hres hI hb
        go_wp2
        go_roundw
        case rel => exact ⟨i + 1, f, o ++ [s[i]], by go_num, by omega, by omega, by simp; omega, HP, hI2, hb2, hres2, hw2⟩
        case measure => simp [intOf]; omega
    · have HS := Lib.hid (show sglT s p = .tuple #[.string ⟨#[]⟩, .int .i64 0, .agg #[.int .i64 3, .int .i64 s.size]] by
        unfold sglT; rw [← hpp.out, rdS_end s f i (by omega)]; simp [pre])
      clear hpp
      go_wp2_with fail
      refine (wrong_any _ _ _).mono ?_
      rintro x w3 ⟨rfl, hb3⟩
      have hr3 := (hb3.block w.heap.size hwl).trans hres.out
      have rc0 := cell_heap4 hr3 0 _ rfl
      have rc1 := cell_heap4 hr3 1 _ rfl
      have rf0 := free_heap4 hr3 0
      have rf1 := free_heap4 hr3 1
      have hB := hb.trans (hb3.mono hb.size)
      clear hr3 hb3
      go_wp2
      refine bodyPost_ret (v := .tuple #[.string ⟨#[]⟩, .int .i64 0, .agg #[.int .i64 3, .int .i64 s.size]]) (by simp [results, Tryz.results6, go_sem, rc0, rc1]) rfl ⟨by rw [HS.out], ?_⟩
      exact (hB.setCell (p := ⟨w.heap.size, 0, none⟩) (Nat.le_refl _) _).setCell (p := ⟨w.heap.size, 1, none⟩) (Nat.le_refl _) _
end Go.Proofs.YtoobbmehjpninaaGreatDoor
