/- The walk of the program's Double: a text, double-quoted. -/
import Derived.Test.YtoobbmehjpninaaGreatDoorWrt
import Derived.Test.YtoobbmehjpninaaGreatDoorBld
import Derived.Test.YtoobbmehjpninaaGreatDoorShelf
namespace Go.Proofs.YtoobbmehjpninaaGreatDoor
open Go.RowKit

theorem bldF_below {T e : TypeId} {B b : Nat} {p : Value} {bs : List Value} {w w' : World} (h : Lib.BuilderAtF T e B b p bs w) (hb : Below w.heap.size w w') : Lib.BuilderAtF T e B b p bs w' := by
  obtain ⟨hB, v, hv, hown, hne⟩ := h
  refine ⟨hB, v, (hb.block b (Array.getElem?_eq_some_iff.1 hv).1).trans hv, ⟨hown.1, ?_⟩, hne⟩
  rcases hown.2 with hn | ⟨g, cap, cur, fz, h1, h2, h3, rest⟩
  · exact .inl hn
  · exact .inr ⟨g, cap, cur, fz, h1, h2, (hb.block g (Array.getElem?_eq_some_iff.1 h3).1).trans h3, rest⟩
theorem isB_below {T e : TypeId} {B b : Nat} {bs : List Value} {w w' : World} (h : Lib.IsBuilderF T e B b bs w) (hb : Below w.heap.size w w') : Lib.IsBuilderF T e B b bs w' :=
  h.elim (fun x => .inl (bldF_below x hb)) (fun x => .inr (bldF_below x hb))
theorem isB_lt {T e : TypeId} {B b : Nat} {bs : List Value} {w : World} (h : Lib.IsBuilderF T e B b bs w) : b < w.heap.size := by
  rcases h with ⟨_, v, hv, _⟩ | ⟨_, v, hv, _⟩ <;> exact (Array.getElem?_eq_some_iff.1 hv).1
theorem dcN_dec (s : ByteArray) (i : Nat) : dcN s i = Utf8.decode s i := by
  have hp := wd_pos s i
  unfold dcN chr
  by_cases h : Utf8.decode s i = (65533, 1)
  · rw [if_pos h, if_pos rfl, h]
  · rw [if_neg h]
    unfold wd at hp
    rw [if_neg (by omega)]
theorem dec_range (s : ByteArray) (i : Nat) (h : i < s.size) : (Utf8.decode s i).1 ≤ 1114111 ∧ ¬ (55296 ≤ (Utf8.decode s i).1 ∧ (Utf8.decode s i).1 ≤ 57343) := by
  by_cases hm : (chr s i).2 = 0
  · have := dcN_dec s i
    unfold dcN at this
    rw [if_pos hm] at this
    rw [← this]; simp
  · obtain ⟨_, _, h1, h2⟩ := chr_enc h rfl hm
    have := dcN_dec s i
    unfold dcN at this
    rw [if_neg hm] at this
    rw [← this]; exact ⟨h1, h2⟩

set_option maxRecDepth 100000 in
set_option maxHeartbeats 4000000 in
theorem double_any (s : ByteArray) (w : World) (hs : s.size ≤ 100000) (ht : TzCell w) :
    Calls Tryz.prog 13 #[.string s] w fun e w' => e = .returned (.string ⟨(wdL s).toArray⟩) ∧ Below w.heap.size w w' := by
  have hI0 := Lib.IsBuilderF.of (Lib.fresh_isBuilder 41 5 w)
  go_enter Tryz.func13, Tryz.ntmps13
  go_wp2_with (go_at_call 21; refine (Tryz.Builder_WriteByte_k w.heap.size w.heap.size _ 34 _ hI0 (by simp) (by simp)).mono ?_)
  rintro e w1 ⟨rfl, h1, b1, _⟩
  have hb1 : Below w.heap.size w w1 := ((Below.refl _ w).alloc (Nat.le_refl _) _).trans b1
  have hI1 : Lib.IsBuilderF 41 5 w.heap.size w.heap.size (Lib.byteCells [34]) w1 := .inr h1
  have hl1 := isB_lt hI1
  clear h1 b1 hI0
  go_wp2
  go_loopw [] (fun wr => ∃ (pos f : Nat) (o : List UInt8), Lib.IsBuilderF 41 5 w.heap.size w.heap.size (Lib.byteCells o) wr ∧ wr.heap[w1.heap.size]? = some (.stringIter s pos) ∧ Below w.heap.size w wr ∧ Hid (o ++ wdF s f pos = 34 :: wdF s s.size 0) ∧ pos ≤ s.size ∧ s.size ≤ pos + f ∧ o.length ≤ 6 * pos + 1) (fun wr => s.size - wr.iterPos w1.heap.size)
  case atStart =>
    exact ⟨0, s.size, [34], hI1.alloc _, World.iter_heap w1 s 0, hb1.alloc hb1.size _, Lib.hid rfl, by omega, by omega, by simp⟩
  case round =>
    obtain ⟨pos, f, o, hI, hit, hbw, hp, hps, hf, hol⟩ := hrel
    have hsz : w1.heap.size < wr.heap.size := (Array.getElem?_eq_some_iff.1 hit).1
    by_cases hlt : pos < s.size
    · obtain ⟨f, rfl⟩ : ∃ g, f = g + 1 := ⟨f - 1, by omega⟩
      have hnx : ∀ ty, (Instr.next (.pointer (some ⟨w1.heap.size, 0, none⟩)) true ty).run Tryz.prog wr = _ := fun ty => Lib.run_next_any_at wr w1.heap.size s pos ty hit hlt
      obtain ⟨r1, r2⟩ := dec_range s pos hlt
      have hw1 := wd_pos s pos
      have hw := wd_le s pos hlt
      have HP := Lib.hid (show o ++ escW (Utf8.decode s pos).1 ++ wdF s f (pos + (Utf8.decode s pos).2) = 34 :: wdF s s.size 0 by
        rw [← hp.out, wdF_step (c := (Utf8.decode s pos).1) (m := (Utf8.decode s pos).2) hlt (dcN_dec s pos), List.append_assoc])
      unfold wd at hw hw1
      have hI2 := hI.iterAt hit (pos + (Utf8.decode s pos).2)
      have hit2 := Lib.iterAt_heap wr w1.heap.size s pos (pos + (Utf8.decode s pos).2) hit
      have hbw2 := Lib.below_iterAt hbw (k := w1.heap.size) (by omega) s (pos + (Utf8.decode s pos).2)
      have hsz2 : w.heap.size ≤ (wr.iterAt w1.heap.size s (pos + (Utf8.decode s pos).2)).heap.size := by rw [Lib.iterAt_size]; omega
      have hsz3 : w1.heap.size < (wr.iterAt w1.heap.size s (pos + (Utf8.decode s pos).2)).heap.size := by rw [Lib.iterAt_size]; omega
      have ht2 := tz_below ht hbw2
      clear hp
      go_wp2_with fail
      refine (written_any (Utf8.decode s pos).1 _ r1 r2 ht2).mono ?_
      rintro e w2 ⟨rfl, hb2⟩
      have hI3 := isB_below hI2 hb2
      have hit3 := (hb2.block w1.heap.size hsz3).trans hit2
      have hbw3 := hbw2.trans (hb2.mono hsz2)
      have hsz4 : w.heap.size ≤ w2.heap.size := hbw3.size
      have hl6 := escW_len (Utf8.decode s pos).1
      go_wp2_with (go_at_call 29; refine (Tryz.Builder_WriteString_k w.heap.size w.heap.size _ ⟨(escW (Utf8.decode s pos).1).toArray⟩ _ hI3 (by rw [Lib.byteCells_length]; show o.length + (escW (Utf8.decode s pos).1).length ≤ _; omega) hsz4).mono ?_)
      rintro e w3 ⟨rfl, h3, b3, k3⟩
      go_wp2
      go_roundw
      case rel =>
        refine ⟨pos + (Utf8.decode s pos).2, f, o ++ escW (Utf8.decode s pos).1, ?_, k3.iter hit3 (by omega), hbw3.trans b3, HP, by omega, by omega, by rw [List.length_append]; omega⟩
        rw [Lib.byteCells_append]; exact Or.inr h3
      case measure =>
        simp only [World.iterPos, k3.iter hit3 (by omega), hit]
        omega
    · have hnx : ∀ ty, (Instr.next (.pointer (some ⟨w1.heap.size, 0, none⟩)) true ty).run Tryz.prog wr = _ := fun ty => Lib.run_next_end_at wr w1.heap.size s pos ty hit hlt
      have hsz0 : w.heap.size ≤ wr.heap.size := hbw.size
      go_wp2_with (go_at_call 21; refine (Tryz.Builder_WriteByte_k w.heap.size w.heap.size _ 34 _ hI (by rw [Lib.byteCells_length]; omega) hsz0).mono ?_)
      rintro e w2 ⟨rfl, h2, b2, _⟩
      have hI2 : Lib.IsBuilderF 41 5 w.heap.size w.heap.size (Lib.byteCells (o ++ [34])) w2 := by rw [Lib.byteCells_append]; exact .inr h2
      have hbw2 := hbw.trans b2
      clear h2
      go_wp2_with (go_at_call 20; refine (Tryz.Builder_String_any_k w.heap.size w.heap.size (o ++ [34]) _ hI2 hbw2.size).mono ?_)
      rintro e w3 ⟨rfl, _, b3, _⟩
      have HW := Lib.hid (show o ++ [34] = wdL s by
        have := hp.out
        rw [wdF_end s f pos (by omega), List.append_nil] at this
        rw [this]; rfl)
      clear hp
      go_wp2
      refine bodyPost_ret (v := .string ⟨(o ++ [34]).toArray⟩) (by simp [results, Tryz.results13, go_sem]) rfl ⟨by rw [HW.out], hbw2.trans b3⟩
end Go.Proofs.YtoobbmehjpninaaGreatDoor
