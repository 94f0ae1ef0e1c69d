/- What a row's condition and the world's shape give the walks of layer 5; the wrap that keeps both. -/
import Derived.Test.YtnnnanemefcmdaaGreatDoorZL0c
import Derived.Test.YtnnnanemefcmdaaGreatDoorZNum
import Derived.Shelf.Vars
import Derived.Lib.LaidU8
import Derived.Lib.LaidTab
import Derived.LaidLaws
import Derived.LaidMore
import Derived.Handed
import Derived.HandedShaped
import Derived.Lay
import Derived.SevenTiedAt
import Derived.Test.YtnnnanemefcmdaaGreatDoorRows
import Derived.Test.YtnnnanemefcmdaaGreatDoorShelf
import Derived.Lib.LaidU8T
import Derived.Lib.LaidIn
import Derived.LaidHandle
import Derived.Test.YtnnnanemefcmdaaGreatDoorZL0d
import Derived.Test.YtnnnanemefcmdaaGreatDoorZHead
import Derived.Test.YtnnnanemefcmdaaGreatDoorZL0a
import Derived.Deep.QuietTactic
import Derived.BigQuiet
import Derived.WalkKit
import Derived.WalkSpells
import Derived.Lib.Hide
namespace Go.Proofs.YtnnnanemefcmdaaGreatDoor
open Go.RowKit Go.Lib

def bruijn : List Int := [0, 1, 56, 2, 57, 49, 28, 3, 61, 58, 42, 50, 38, 29, 17, 4, 62, 47, 59, 36, 45, 43, 51, 22, 53, 39, 33, 30, 24, 18, 12, 5, 63, 55, 48, 27, 60, 41, 37, 16, 46, 35, 44, 21, 52, 32, 23, 11, 54, 26, 40, 15, 34, 20, 31, 10, 25, 14, 19, 9, 13, 8, 7, 6]
theorem bruijn_is : (Rows.laid_math_bits_deBruijn64tab : DataW Unit) = tabData .u8 bruijn := by kernel_rfl
theorem tz_of_laid {laid : List (String × DataW Unit)} {W : World} (h : laidMet Tryz.prog laid W) (hm : ("math/bits.deBruijn64tab", Rows.laid_math_bits_deBruijn64tab) ∈ laid) : TzCell W := by
  obtain ⟨g, t, cs, fuel, p, hg, ht, hv, hd⟩ := Lib.laidMet.reads h hm
  have hg2 : Tryz.prog.globalNamed "math/bits.deBruijn64tab" = some 7 := by kernel_rfl
  obtain rfl := Option.some.inj (hg2.symm.trans hg)
  have ht2 : (Tryz.prog.globals[7]?).map (·.type) = some 184 := by kernel_rfl
  obtain rfl := Option.some.inj (ht2.symm.trans ht)
  rw [bruijn_is] at hd
  have hc := cells_of_tab (k := .u8) (zs := bruijn) Tryz.underlying184 Tryz.underlying5 (by kernel_rfl) (by kernel_rfl) hd
  have hT : TabIs Tryz.prog W "math/bits.deBruijn64tab" .u8 bruijn := by unfold TabIs; rw [hv, ← hc]
  exact hT.cell hg2 15 (by decide)
theorem err_of_laid {laid : List (String × DataW Unit)} {W : World} (h : laidMet Tryz.prog laid W) {d : DataW Unit} {nm : String} (hm : ("strconv.ErrSyntax", .iface nm d) ∈ laid) : ErrCell W := by
  obtain ⟨g, t, cs, fuel, p, hg, ht, hv, hd⟩ := Lib.laidMet.reads h hm
  have hg2 : Tryz.prog.globalNamed "strconv.ErrSyntax" = some 4 := by kernel_rfl
  obtain rfl := Option.some.inj (hg2.symm.trans hg)
  have ht2 : (Tryz.prog.globals[4]?).map (·.type) = some 84 := by kernel_rfl
  obtain rfl := Option.some.inj (ht2.symm.trans ht)
  obtain ⟨f1, u, v, hcs, _, _⟩ := iface_of_trod Tryz.underlying84 hd
  have := World.var?_cell hg2 hv 0
  refine ⟨u, v, ?_⟩
  rw [show cs[0]? = cs.toList[0]? by simp, hcs] at this
  simpa using this
theorem max_of_shape {W : World} (h : W.ShapedOpen Tryz.prog) : MaxLenCell W :=
  cell_of_shapedOpen_int (zero := #[.int .i64 0]) (t := 3) h (of_decide_eq_true (by kernel_rfl)) (by kernel_rfl) rfl (by kernel_rfl) (by kernel_rfl) Tryz.underlying3

/-- The wrap, the condition on the listed variables and the world's shape both kept. -/
theorem handed_both {H : Type} {enc : TypeId × Value → H} {a : Assume} {C : Checked} {os : Os} {f : FuncId} {fn : Func} {s : ChangeSpec} {conds : List PathCond} {apart fresh handsOn again : Bool} {X : World → Array Value → Prop}
    (hX : ∀ (w w' : World) (args : Array Value), w.heap = w'.heap → X w args → X w' args)
    (own : ownKnob C.prog.godebug = none) (started : os.Started) (noInit : C.prog.inits.idxOf? f = none) (hfn : C.prog.funcs[f]? = some fn)
    (witness : ∃ (w : World) (tape : Tape) (i : Input), w.os = os ∧ (w.forCall tape i).Shaped C.prog ∧ i.vars = [] ∧ Input.okWide C.prog (w.forCall tape i) .any w.heap.size f i ∧
      ((s.pre enc C.prog fn conds apart (w.forCall tape i).memory i.args ∧ X (w.forCall tape i).memory i.args) ∧ sizedMet enc C.prog fn (OpenSpec.ofChange s) apart (w.forCall tape i).memory i.args) ∧ a.holds C.prog (lone (Frame.enter C.prog f i.args .normal) [] (w.forCall tape i)))
    (contract : ∀ (W : World) (base : Nat) (args : Array Value) (ds gs : List (DataW H)) (before : List MemPlace),
      (∀ (j : Nat) t v, fn.params[j]? = some t → args[j]? = some v → Value.okWide C.prog W .any base t v) →
      DataW.Whole enc C.prog fn.params.toList s.vars apart W args.toList ds gs before → X W args → W.ShapedOpen C.prog →
      Calls C.prog f args W fun e W' => ∃ v, e = .returned v ∧ s.post enc C.prog fn apart fresh handsOn again W args v W') :
    ReturnsInHanded a C os f .any (fun w args => (s.pre enc C.prog fn conds apart w args ∧ X w args) ∧ sizedMet enc C.prog fn (OpenSpec.ofChange s) apart w args) (s.post enc C.prog fn apart fresh handsOn again) := by
  refine returnsInHanded_of_calls own started noInit witness ?_
  intro w tape i _ hsh _ ⟨_, _, _, g, hg, _, _, _, _, hval⟩ ⟨⟨⟨ds, gs, before, hw, _⟩, hx⟩, _⟩ _
  obtain rfl : g = fn := Option.some.inj (hg.symm.trans hfn)
  refine (contract (w.forCall tape i) w.heap.size i.args ds gs before hval (DataW.Whole.of_heap (w' := w.forCall tape i) (by rfl) hw) (hX _ _ _ (by rfl) hx) hsh).mono fun e W' hp => ?_
  obtain ⟨v, rfl, hp⟩ := hp
  exact ChangeSpec.post_blind hp
end Go.Proofs.YtnnnanemefcmdaaGreatDoor
namespace Go.Proofs.YtnnnanemefcmdaaGreatDoor
open Go.Shelf Go.Lib

theorem first_is : Rows.laid_unicode_utf8_first = Lib.firstData := by kernel_rfl
theorem accept_is : (Rows.laid_unicode_utf8_acceptRanges : DataW Unit) = Lib.acceptData := by kernel_rfl
theorem tabs_of_mem {laid : List (String × DataW Unit)} {W : World} (h' : laidMet Tryz.prog laid W) (m2 : ("unicode/utf8.acceptRanges", Rows.laid_unicode_utf8_acceptRanges) ∈ laid) (m1 : ("unicode/utf8.first", Rows.laid_unicode_utf8_first) ∈ laid) : Lib.Utf8Tabs 0 1 W := by
  have h2 := Lib.laidMet.reads h' m2
  have h1 := Lib.laidMet.reads h' m1
  rw [accept_is] at h2
  rw [first_is] at h1
  exact utf8Tabs_of_readsT (U8Types.of196 Tryz.lays196) ⟨by kernel_rfl, by kernel_rfl, by kernel_rfl, by kernel_rfl, by kernel_rfl, by kernel_rfl, by kernel_rfl⟩ h1 h2
end Go.Proofs.YtnnnanemefcmdaaGreatDoor
namespace Go.Proofs.YtnnnanemefcmdaaGreatDoor
open Go.RowKit

/-- What begins at a place: a token's kind, place and text, the place behind it, what is open then; the code, the place of what is wrong. -/
structure On where
  k : Nat
  a : Nat
  t : List UInt8
  n : Nat
  o : List UInt8
  c : Nat
  p : Nat
def wrO (i : Nat) : On := ⟨0, 0, [], 0, [], 3, i⟩
/-- Where the word's bytes end that begin at a place. -/
def wordE (s : ByteArray) : Nat → Nat → Nat
  | 0, i => i
  | f + 1, i => if i < s.size ∧ wordB (bt s i) = true then wordE s f (i + 1) else i
theorem wordE_le (s : ByteArray) (f : Nat) : ∀ i, i ≤ s.size → i ≤ wordE s f i ∧ wordE s f i ≤ s.size := by
  induction f with
  | zero => intro i h; exact ⟨Nat.le_refl _, h⟩
  | succ f ih =>
    intro i h
    rw [wordE]
    split
    · have := ih (i + 1) (by omega); omega
    · exact ⟨Nat.le_refl _, h⟩
theorem wordE_on {s : ByteArray} {f i : Nat} (h : i < s.size) (hw : wordB (bt s i) = true) : wordE s (f + 1) i = wordE s f (i + 1) := by rw [wordE, if_pos ⟨h, hw⟩]
theorem wordE_no {s : ByteArray} {f i : Nat} (hw : s.size ≤ i ∨ wordB (bt s i) = false) : wordE s f i = i := by
  cases f with
  | zero => rfl
  | succ f =>
    rw [wordE, if_neg]
    rintro ⟨h1, h2⟩
    rcases hw with h | h
    · omega
    · rw [h] at h2; cases h2
/-- What a mark's name gives. -/
def naO (s : ByteArray) (i k : Nat) (op ahead : List UInt8) : On :=
  if nameB (s.extract (i + 1) (wordE s s.size (i + 1))) = true then ⟨k, i, ahead ++ (s.extract (i + 1) (wordE s s.size (i + 1))).data.toList, wordE s s.size (i + 1), op, 0, 0⟩ else wrO i
/-- What a sign of flows gives. -/
def flO (s : ByteArray) (i : Nat) (op : List UInt8) : On :=
  if bt s i = 91 then ⟨4, i, [], i + 1, op ++ [93], 0, 0⟩
  else if bt s i = 123 then ⟨6, i, [], i + 1, op ++ [125], 0, 0⟩
  else if op = [] then wrO i
  else if bt s i = 44 then ⟨3, i, [], i + 1, op, 0, 0⟩
  else if (op.getLast?.map UInt8.toNat) ≠ some (bt s i) then wrO i
  else ⟨if bt s i = 125 then 7 else 5, i, [], i + 1, op.dropLast, 0, 0⟩
/-- What begins at a place, but for quoted texts. -/
def reO (s : ByteArray) (i : Nat) (op : List UInt8) (last : Nat) : On :=
  if flowB (bt s i) = true then flO s i op
  else if bt s i = 38 then naO s i 8 op []
  else if bt s i = 42 then naO s i 9 op []
  else if bt s i = 33 then naO s i 10 op [33]
  else if bt s i = 124 then (if op ≠ [] then wrO i else ⟨13, i, (s.extract i (hdr s i).2.2).data.toList, (hdr s i).2.2, [], 0, 0⟩)
  else if partsB s i (!op.isEmpty) = true then ⟨2, i, [], i + 1, op, 0, 0⟩
  else if bt s i = 45 ∧ op = [] ∧ (i + 1 = s.size ∨ bt s (i + 1) = 32) then (if 1 < last then wrO i else ⟨1, i, [], i + 1, [], 0, 0⟩)
  else if beginsB s i (!op.isEmpty) = false then wrO i
  else if 1024 < plainE s (!op.isEmpty) i - i then ⟨0, 0, [], 0, [], 5, i⟩
  else ⟨11, i, (s.extract i (plainE s (!op.isEmpty) i)).data.toList, plainE s (!op.isEmpty) i, op, 0, 0⟩
/-- May what stands at a place stand right behind a token? -/
def tiB (s : ByteArray) (i : Nat) (op : List UInt8) : Bool :=
  decide (i = s.size ∨ bt s i = 32) || partsB s i (!op.isEmpty) || (!op.isEmpty && flowB (bt s i))
end Go.Proofs.YtnnnanemefcmdaaGreatDoor
namespace Go.Proofs.YtnnnanemefcmdaaGreatDoor
open Go.RowKit

/-- What a quoted text comes to: its content, the place behind it; the code, the place of what is wrong. -/
abbrev Qt := List UInt8 × Nat × Nat × Nat
def gotQ (t : List UInt8) (a n : Nat) : Qt := if 1024 < t.length then ([], 0, 5, a) else (t, n, 0, 0)
def sglQ (s : ByteArray) (a : Nat) : Qt := match rdS s s.size (a + 1) with
  | some (t, n) => gotQ t a n
  | none => ([], 0, 3, s.size)
def dblQ (s : ByteArray) (a : Nat) : Qt := match rdD s s.size (a + 1) with
  | .done t n => gotQ t a n
  | .bad i => ([], 0, 6, i)
  | .cut => ([], 0, 3, s.size)
def qV (q : Qt) : Value := .agg #[.string ⟨q.1.toArray⟩, .int .i64 (q.2.1 : Nat), .int .i64 (q.2.2.1 : Nat), .int .i64 (q.2.2.2 : Nat)]
theorem gotV_Q (t : List UInt8) (a n : Nat) : gotV t a n = qV (gotQ t a n) := by
  unfold gotV gotQ
  split <;> rfl
theorem sglV_Q (s : ByteArray) (a : Nat) : sglV s a = qV (sglQ s a) := by
  unfold sglV sglQ
  cases rdS s s.size (a + 1) with
  | none => rfl
  | some p => exact gotV_Q p.1 a p.2
theorem dblV_Q (s : ByteArray) (a : Nat) : dblV s a = qV (dblQ s a) := by
  unfold dblV dblQ
  cases rdD s s.size (a + 1) with
  | done t n => exact gotV_Q t a n
  | bad i => rfl
  | cut => rfl
/-- What begins at a place. -/
def rdO (s : ByteArray) (i : Nat) (op : List UInt8) (last : Nat) : On :=
  if bt s i = 39 then ⟨12, i, (sglQ s i).1, (sglQ s i).2.1, op, (sglQ s i).2.2.1, (sglQ s i).2.2.2⟩
  else if bt s i = 34 then ⟨12, i, (dblQ s i).1, (dblQ s i).2.1, op, (dblQ s i).2.2.1, (dblQ s i).2.2.2⟩
  else reO s i op last
/-- A token: its kind, place and text. -/
abbrev Tk := Nat × Nat × List UInt8
/-- A row's tokens, from a place on; or the code and the place of what is wrong. -/
def rwF (s : ByteArray) : Nat → Nat → List UInt8 → Nat → List Tk → List Tk × Nat × Nat
  | 0, _, _, _, out => (out, 0, 0)
  | f + 1, i, op, last, out =>
    if i < s.size ∧ ¬ (bt s i = 35 ∧ (i = 0 ∨ bt s (i - 1) = 32)) then
      if bt s i = 32 then rwF s f (i + 1) op last out
      else if (rdO s i op last).c ≠ 0 then ([], (rdO s i op last).c, (rdO s i op last).p)
      else if (8 ≤ (rdO s i op last).k ∧ (rdO s i op last).k ≠ 11 ∨ (rdO s i op last).k = 5 ∨ (rdO s i op last).k = 7) ∧ tiB s (rdO s i op last).n (rdO s i op last).o = false then ([], 3, (rdO s i op last).n)
      else rwF s f (rdO s i op last).n (rdO s i op last).o (rdO s i op last).k (out ++ [((rdO s i op last).k, (rdO s i op last).a, (rdO s i op last).t)])
    else if op ≠ [] then ([], 3, s.size) else (out, 0, 0)
def rwT (s : ByteArray) : List Tk × Nat × Nat := rwF s (s.size + 1) 0 [] 0 []
end Go.Proofs.YtnnnanemefcmdaaGreatDoor
namespace Go.Proofs.YtnnnanemefcmdaaGreatDoor
open Go.RowKit

/-- What begins at a place, as the program's value. -/
def OnV (x : On) : Value := .agg #[.int .i64 (x.k : Nat), .int .i64 (x.a : Nat), .string ⟨x.t.toArray⟩, .int .i64 (x.n : Nat), .string ⟨x.o.toArray⟩, .int .i64 (x.c : Nat), .int .i64 (x.p : Nat)]
theorem cat7 (a b : List UInt8) : (⟨a.toArray⟩ : ByteArray) ++ ⟨b.toArray⟩ = ⟨(a ++ b).toArray⟩ := by
  apply ByteArray.ext; simp [ByteArray.data_append]
theorem mk_self (b : ByteArray) : (⟨b.data.toList.toArray⟩ : ByteArray) = b := by cases b; simp
set_option maxRecDepth 100000 in
set_option maxHeartbeats 2000000 in
theorem refWrong_any (i : Nat) (w : World) :
    Calls Tryz.prog 41 #[.int .i64 i] w fun e w' => e = .returned (.agg #[.int .i64 0, .int .i64 0, .string ⟨#[]⟩, .int .i64 0, .string ⟨#[]⟩, .int .i64 3, .int .i64 i]) ∧ Below w.heap.size w w' := by
  skip
  go_enter Tryz.func41, Tryz.ntmps41
  go_wp2
  refine bodyPost_ret (v := .agg #[.int .i64 0, .int .i64 0, .string ⟨#[]⟩, .int .i64 0, .string ⟨#[]⟩, .int .i64 3, .int .i64 i]) (by simp [results, Tryz.results41, go_sem]) rfl ⟨rfl, ?_⟩
  exact (Below.refl _ _).alloc (Nat.le_refl _) _
set_option maxRecDepth 100000 in
set_option maxHeartbeats 2000000 in
theorem refFlow_seq (s o : ByteArray) (i : Nat) (hs : s.size ≤ 4000) (ho : o.size ≤ 4000) (h : i < s.size) (hc : bt s i = 91) (w : World) :
    Calls Tryz.prog 38 #[.string s, .int .i64 i, .string o] w fun e w' => e = .returned (.agg #[.int .i64 4, .int .i64 i, .string ⟨#[]⟩, .int .i64 ((i : Int) + 1), .string (o ++ ⟨#[93]⟩), .int .i64 0, .int .i64 0]) ∧ Below w.heap.size w w' := by
  have q91 : ((s[i].toNat : Int) == 91) = true := (eq_true (c := 91) h hc).2
  have hz : ¬ 9223372036854775807 < o.size + 1 := by omega
  clear hc
  go_enter Tryz.func38, Tryz.ntmps38
  go_wp2
  refine bodyPost_ret (v := .agg #[.int .i64 4, .int .i64 i, .string ⟨#[]⟩, .int .i64 ((i : Int) + 1), .string (o ++ ⟨#[93]⟩), .int .i64 0, .int .i64 0]) (by simp [results, Tryz.results38, go_sem]) rfl ⟨rfl, ?_⟩
  exact (Below.refl _ _).alloc (Nat.le_refl _) _
set_option maxRecDepth 100000 in
set_option maxHeartbeats 2000000 in
theorem refFlow_map (s o : ByteArray) (i : Nat) (hs : s.size ≤ 4000) (ho : o.size ≤ 4000) (h : i < s.size) (hc : bt s i = 123) (w : World) :
    Calls Tryz.prog 38 #[.string s, .int .i64 i, .string o] w fun e w' => e = .returned (.agg #[.int .i64 6, .int .i64 i, .string ⟨#[]⟩, .int .i64 ((i : Int) + 1), .string (o ++ ⟨#[125]⟩), .int .i64 0, .int .i64 0]) ∧ Below w.heap.size w w' := by
  have q91 : ((s[i].toNat : Int) == 91) = false := (ne_true (c := 91) h (by omega)).2
  have q123 : ((s[i].toNat : Int) == 123) = true := (eq_true (c := 123) h hc).2
  have hz : ¬ 9223372036854775807 < o.size + 1 := by omega
  clear hc
  go_enter Tryz.func38, Tryz.ntmps38
  go_wp2
  refine bodyPost_ret (v := .agg #[.int .i64 6, .int .i64 i, .string ⟨#[]⟩, .int .i64 ((i : Int) + 1), .string (o ++ ⟨#[125]⟩), .int .i64 0, .int .i64 0]) (by simp [results, Tryz.results38, go_sem]) rfl ⟨rfl, ?_⟩
  exact (Below.refl _ _).alloc (Nat.le_refl _) _
theorem cell_hp {u : World} {b : Nat} {cs : Array Value} {t : TypeId} (h : u.heap[b]? = some (.cells cs t)) (j : Nat) (v : Value) (hv : cs[j]? = some v) : u.cell? ⟨b, j, none⟩ = some v := by
  simp [World.cell?, h, hv]
theorem free_hp {u : World} {b : Nat} {cs : Array Value} {t : TypeId} (h : u.heap[b]? = some (.cells cs t)) (j : Nat) : u.frozen? ⟨b, j, none⟩ = false := by
  simp [World.frozen?, h]
set_option maxRecDepth 100000 in
set_option maxHeartbeats 2000000 in
theorem refFlow_none (s o : ByteArray) (i : Nat) (h : i < s.size) (ho : o.size = 0) (h1 : bt s i ≠ 91) (h2 : bt s i ≠ 123) (w : World) :
    Calls Tryz.prog 38 #[.string s, .int .i64 i, .string o] w fun e w' => e = .returned (.agg #[.int .i64 0, .int .i64 0, .string ⟨#[]⟩, .int .i64 0, .string ⟨#[]⟩, .int .i64 3, .int .i64 i]) ∧ Below w.heap.size w w' := by
  have q91 : ((s[i].toNat : Int) == 91) = false := (ne_true (c := 91) h (h1)).2
  have q123 : ((s[i].toNat : Int) == 123) = false := (ne_true (c := 123) h (h2)).2
  have q0 : ((o.size : Int) == 0) = true := by simp [ho]
  clear ho h1 h2
  go_enter Tryz.func38, Tryz.ntmps38
  go_wp2_with fail
  refine (refWrong_any i _).mono ?_
  rintro e w1 ⟨rfl, hb⟩
  have hb1 := ((Below.refl w.heap.size w).alloc (Nat.le_refl _) (.cells #[.int .i64 0, .int .i64 0, .string ⟨#[]⟩, .int .i64 0, .string ⟨#[]⟩, .int .i64 0, .int .i64 0] 43)).trans (hb.mono (by simp))
  have hx := (hb.block w.heap.size (by simp)).trans (heap_alloc_new w (.cells #[.int .i64 0, .int .i64 0, .string ⟨#[]⟩, .int .i64 0, .string ⟨#[]⟩, .int .i64 0, .int .i64 0] 43))
  have rc0 := cell_hp hx 0 _ rfl
  have rf0 := free_hp hx 0
  have rc1 := cell_hp hx 1 _ rfl
  have rf1 := free_hp hx 1
  have rc2 := cell_hp hx 2 _ rfl
  have rf2 := free_hp hx 2
  have rc3 := cell_hp hx 3 _ rfl
  have rf3 := free_hp hx 3
  have rc4 := cell_hp hx 4 _ rfl
  have rf4 := free_hp hx 4
  have rc5 := cell_hp hx 5 _ rfl
  have rf5 := free_hp hx 5
  have rc6 := cell_hp hx 6 _ rfl
  have rf6 := free_hp hx 6
  clear hb hx
  go_wp2
  refine bodyPost_ret (v := .agg #[.int .i64 0, .int .i64 0, .string ⟨#[]⟩, .int .i64 0, .string ⟨#[]⟩, .int .i64 3, .int .i64 i]) (by simp [results, Tryz.results38, go_sem, rc0, rc1, rc2, rc3, rc4, rc5, rc6]) rfl ⟨rfl, ?_⟩
  exact (((((((hb1.setCell (p := ⟨w.heap.size, 0, none⟩) (Nat.le_refl _) _).setCell (p := ⟨w.heap.size, 1, none⟩) (Nat.le_refl _) _).setCell (p := ⟨w.heap.size, 2, none⟩) (Nat.le_refl _) _).setCell (p := ⟨w.heap.size, 3, none⟩) (Nat.le_refl _) _).setCell (p := ⟨w.heap.size, 4, none⟩) (Nat.le_refl _) _).setCell (p := ⟨w.heap.size, 5, none⟩) (Nat.le_refl _) _).setCell (p := ⟨w.heap.size, 6, none⟩) (Nat.le_refl _) _)
set_option maxRecDepth 100000 in
set_option maxHeartbeats 2000000 in
theorem refFlow_comma (s o : ByteArray) (i : Nat) (hs : s.size ≤ 4000) (ho : o.size ≤ 4000) (h : i < s.size) (h0 : 0 < o.size) (hc : bt s i = 44) (w : World) :
    Calls Tryz.prog 38 #[.string s, .int .i64 i, .string o] w fun e w' => e = .returned (.agg #[.int .i64 3, .int .i64 i, .string ⟨#[]⟩, .int .i64 ((i : Int) + 1), .string o, .int .i64 0, .int .i64 0]) ∧ Below w.heap.size w w' := by
  have q91 : ((s[i].toNat : Int) == 91) = false := (ne_true (c := 91) h (by omega)).2
  have q123 : ((s[i].toNat : Int) == 123) = false := (ne_true (c := 123) h (by omega)).2
  have q44 : ((s[i].toNat : Int) == 44) = true := (eq_true (c := 44) h hc).2
  have q0 : ((o.size : Int) == 0) = false := by simp only [beq_eq_false_iff_ne, ne_eq]; omega
  clear hc
  go_enter Tryz.func38, Tryz.ntmps38
  go_wp2
  refine bodyPost_ret (v := .agg #[.int .i64 3, .int .i64 i, .string ⟨#[]⟩, .int .i64 ((i : Int) + 1), .string o, .int .i64 0, .int .i64 0]) (by simp [results, Tryz.results38, go_sem]) rfl ⟨rfl, ?_⟩
  exact (Below.refl _ _).alloc (Nat.le_refl _) _
end Go.Proofs.YtnnnanemefcmdaaGreatDoor
namespace Go.Proofs.YtnnnanemefcmdaaGreatDoor
open Go.RowKit
set_option maxRecDepth 100000 in
set_option maxHeartbeats 2000000 in
theorem refFlow_other (s o : ByteArray) (i : Nat) (_hs : s.size ≤ 4000) (ho : o.size ≤ 4000) (h : i < s.size) (h0 : 0 < o.size) (h1 : bt s i ≠ 91) (h2 : bt s i ≠ 123) (h3 : bt s i ≠ 44) (hd : bt o (o.size - 1) ≠ bt s i) (w : World) :
    Calls Tryz.prog 38 #[.string s, .int .i64 i, .string o] w fun e w' => e = .returned (.agg #[.int .i64 0, .int .i64 0, .string ⟨#[]⟩, .int .i64 0, .string ⟨#[]⟩, .int .i64 3, .int .i64 i]) ∧ Below w.heap.size w w' := by
  have q91 : ((s[i].toNat : Int) == 91) = false := (ne_true (c := 91) h (h1)).2
  have q123 : ((s[i].toNat : Int) == 123) = false := (ne_true (c := 123) h (h2)).2
  have q44 : ((s[i].toNat : Int) == 44) = false := (ne_true (c := 44) h (h3)).2
  have q0 : ((o.size : Int) == 0) = false := by simp only [beq_eq_false_iff_ne, ne_eq]; omega
  have hl : o.size - 1 < o.size := by omega
  have hbo := bt_get o (o.size - 1) hl
  have hbs := bt_get s i h
  have x1 : IntKind.i64.wrap ((o.size : Int) - 1) = (o.size : Int) - 1 := by rw [IntKind.wrap_i64]; omega
  have x2 : (0 : Int) ≤ (o.size : Int) - 1 := by omega
  have x3 : ((o.size : Int) - 1).toNat = o.size - 1 := by omega
  have x4 : (o.size : Int) - 1 < (o.size : Int) := by omega
  have x6 : (1 : Int) ≤ (o.size : Int) := by omega
  have x7 : 1 ≤ o.size := by omega
  have qd : ((o[o.size - 1].toNat : Int) != (s[i].toNat : Int)) = true := by simp only [bne_iff_ne, ne_eq]; omega
  clear h1 h2 h3 hd hbo hbs
  go_enter Tryz.func38, Tryz.ntmps38
  go_wp2
  go_quiet (fail)
  (try clear x1); (try clear x2); (try clear x3); (try clear x4)
  obtain ⟨w9, hw9⟩ : ∃ w9, (w.alloc (.cells #[.int .i64 0, .int .i64 0, .string ⟨#[]⟩, .int .i64 0, .string ⟨#[]⟩, .int .i64 0, .int .i64 0] 43)).drewN nq = w9 := ⟨_, rfl⟩
  have hb9 : Below w.heap.size w w9 := by rw [← hw9]; exact bel_drewN ((Below.refl _ _).alloc (Nat.le_refl _) _) nq
  have hx9 : w9.heap[w.heap.size]? = some (.cells #[.int .i64 0, .int .i64 0, .string ⟨#[]⟩, .int .i64 0, .string ⟨#[]⟩, .int .i64 0, .int .i64 0] 43) := by rw [← hw9]; exact heap_alloc_new w (.cells #[.int .i64 0, .int .i64 0, .string ⟨#[]⟩, .int .i64 0, .string ⟨#[]⟩, .int .i64 0, .int .i64 0] 43)
  have hl9 : w.heap.size < w9.heap.size := (Array.getElem?_eq_some_iff.1 hx9).1
  rw [hw9]
  clear hw9
  go_wp2_with fail
  refine (refWrong_any i _).mono ?_
  rintro e w1 ⟨rfl, hb⟩
  have hb1 := hb9.trans (hb.mono hb9.size)
  have hx := (hb.block w.heap.size hl9).trans hx9
  have rc0 := cell_hp hx 0 _ rfl
  have rf0 := free_hp hx 0
  have rc1 := cell_hp hx 1 _ rfl
  have rf1 := free_hp hx 1
  have rc2 := cell_hp hx 2 _ rfl
  have rf2 := free_hp hx 2
  have rc3 := cell_hp hx 3 _ rfl
  have rf3 := free_hp hx 3
  have rc4 := cell_hp hx 4 _ rfl
  have rf4 := free_hp hx 4
  have rc5 := cell_hp hx 5 _ rfl
  have rf5 := free_hp hx 5
  have rc6 := cell_hp hx 6 _ rfl
  have rf6 := free_hp hx 6
  clear hb hx
  go_wp2
  refine bodyPost_ret (v := .agg #[.int .i64 0, .int .i64 0, .string ⟨#[]⟩, .int .i64 0, .string ⟨#[]⟩, .int .i64 3, .int .i64 i]) (by simp [results, Tryz.results38, go_sem, rc0, rc1, rc2, rc3, rc4, rc5, rc6]) rfl ⟨rfl, ?_⟩
  exact (((((((hb1.setCell (p := ⟨w.heap.size, 0, none⟩) (Nat.le_refl _) _).setCell (p := ⟨w.heap.size, 1, none⟩) (Nat.le_refl _) _).setCell (p := ⟨w.heap.size, 2, none⟩) (Nat.le_refl _) _).setCell (p := ⟨w.heap.size, 3, none⟩) (Nat.le_refl _) _).setCell (p := ⟨w.heap.size, 4, none⟩) (Nat.le_refl _) _).setCell (p := ⟨w.heap.size, 5, none⟩) (Nat.le_refl _) _).setCell (p := ⟨w.heap.size, 6, none⟩) (Nat.le_refl _) _)
set_option maxRecDepth 100000 in
set_option maxHeartbeats 2000000 in
theorem refFlow_sq (s o : ByteArray) (i : Nat) (hs : s.size ≤ 4000) (ho : o.size ≤ 4000) (h : i < s.size) (h0 : 0 < o.size) (hc : bt s i = 93) (hd : bt o (o.size - 1) = bt s i) (w : World) :
    Calls Tryz.prog 38 #[.string s, .int .i64 i, .string o] w fun e w' => e = .returned (.agg #[.int .i64 5, .int .i64 i, .string ⟨#[]⟩, .int .i64 ((i : Int) + 1), .string (o.extract 0 (o.size - 1)), .int .i64 0, .int .i64 0]) ∧ Below w.heap.size w w' := by
  have q91 : ((s[i].toNat : Int) == 91) = false := (ne_true (c := 91) h (by omega)).2
  have q123 : ((s[i].toNat : Int) == 123) = false := (ne_true (c := 123) h (by omega)).2
  have q44 : ((s[i].toNat : Int) == 44) = false := (ne_true (c := 44) h (by omega)).2
  have q0 : ((o.size : Int) == 0) = false := by simp only [beq_eq_false_iff_ne, ne_eq]; omega
  have hl : o.size - 1 < o.size := by omega
  have hbo := bt_get o (o.size - 1) hl
  have hbs := bt_get s i h
  have x1 : IntKind.i64.wrap ((o.size : Int) - 1) = (o.size : Int) - 1 := by rw [IntKind.wrap_i64]; omega
  have x2 : (0 : Int) ≤ (o.size : Int) - 1 := by omega
  have x3 : ((o.size : Int) - 1).toNat = o.size - 1 := by omega
  have x4 : (o.size : Int) - 1 < (o.size : Int) := by omega
  have x6 : (1 : Int) ≤ (o.size : Int) := by omega
  have x7 : 1 ≤ o.size := by omega
  have qd : ((o[o.size - 1].toNat : Int) != (s[i].toNat : Int)) = false := by simp only [bne_eq_false_iff_eq]; omega
  have q125 : ((s[i].toNat : Int) == 125) = false := (ne_true (c := 125) h (by omega)).2
  clear hc hd hbo hbs
  go_enter Tryz.func38, Tryz.ntmps38
  go_wp2
  go_quiet (fail)
  (try clear x1); (try clear x2); (try clear x3); (try clear x4)
  obtain ⟨w9, hw9⟩ : ∃ w9, (w.alloc (.cells #[.int .i64 0, .int .i64 0, .string ⟨#[]⟩, .int .i64 0, .string ⟨#[]⟩, .int .i64 0, .int .i64 0] 43)).drewN nq = w9 := ⟨_, rfl⟩
  have hb9 : Below w.heap.size w w9 := by rw [← hw9]; exact bel_drewN ((Below.refl _ _).alloc (Nat.le_refl _) _) nq
  have hx9 : w9.heap[w.heap.size]? = some (.cells #[.int .i64 0, .int .i64 0, .string ⟨#[]⟩, .int .i64 0, .string ⟨#[]⟩, .int .i64 0, .int .i64 0] 43) := by rw [← hw9]; exact heap_alloc_new w (.cells #[.int .i64 0, .int .i64 0, .string ⟨#[]⟩, .int .i64 0, .string ⟨#[]⟩, .int .i64 0, .int .i64 0] 43)
  have hl9 : w.heap.size < w9.heap.size := (Array.getElem?_eq_some_iff.1 hx9).1
  rw [hw9]
  clear hw9
  have rc0 := cell_hp hx9 0 _ rfl
  have rf0 := free_hp hx9 0
  have rc1 := cell_hp hx9 1 _ rfl
  have rf1 := free_hp hx9 1
  have rc2 := cell_hp hx9 2 _ rfl
  have rf2 := free_hp hx9 2
  have rc3 := cell_hp hx9 3 _ rfl
  have rf3 := free_hp hx9 3
  have rc4 := cell_hp hx9 4 _ rfl
  have rf4 := free_hp hx9 4
  have rc5 := cell_hp hx9 5 _ rfl
  have rf5 := free_hp hx9 5
  have rc6 := cell_hp hx9 6 _ rfl
  have rf6 := free_hp hx9 6
  clear hx9
  go_wp2
  refine bodyPost_ret (v := .agg #[.int .i64 5, .int .i64 i, .string ⟨#[]⟩, .int .i64 ((i : Int) + 1), .string (o.extract 0 (o.size - 1)), .int .i64 0, .int .i64 0]) (by simp [results, Tryz.results38, go_sem, rc0, rc1, rc2, rc3, rc4, rc5, rc6]) rfl ⟨rfl, ?_⟩
  exact (((((((hb9.setCell (p := ⟨w.heap.size, 0, none⟩) (Nat.le_refl _) _).setCell (p := ⟨w.heap.size, 1, none⟩) (Nat.le_refl _) _).setCell (p := ⟨w.heap.size, 2, none⟩) (Nat.le_refl _) _).setCell (p := ⟨w.heap.size, 3, none⟩) (Nat.le_refl _) _).setCell (p := ⟨w.heap.size, 4, none⟩) (Nat.le_refl _) _).setCell (p := ⟨w.heap.size, 5, none⟩) (Nat.le_refl _) _).setCell (p := ⟨w.heap.size, 6, none⟩) (Nat.le_refl _) _)
set_option maxRecDepth 100000 in
set_option maxHeartbeats 2000000 in
theorem refFlow_mp (s o : ByteArray) (i : Nat) (hs : s.size ≤ 4000) (ho : o.size ≤ 4000) (h : i < s.size) (h0 : 0 < o.size) (hc : bt s i = 125) (hd : bt o (o.size - 1) = bt s i) (w : World) :
    Calls Tryz.prog 38 #[.string s, .int .i64 i, .string o] w fun e w' => e = .returned (.agg #[.int .i64 7, .int .i64 i, .string ⟨#[]⟩, .int .i64 ((i : Int) + 1), .string (o.extract 0 (o.size - 1)), .int .i64 0, .int .i64 0]) ∧ Below w.heap.size w w' := by
  have q91 : ((s[i].toNat : Int) == 91) = false := (ne_true (c := 91) h (by omega)).2
  have q123 : ((s[i].toNat : Int) == 123) = false := (ne_true (c := 123) h (by omega)).2
  have q44 : ((s[i].toNat : Int) == 44) = false := (ne_true (c := 44) h (by omega)).2
  have q0 : ((o.size : Int) == 0) = false := by simp only [beq_eq_false_iff_ne, ne_eq]; omega
  have hl : o.size - 1 < o.size := by omega
  have hbo := bt_get o (o.size - 1) hl
  have hbs := bt_get s i h
  have x1 : IntKind.i64.wrap ((o.size : Int) - 1) = (o.size : Int) - 1 := by rw [IntKind.wrap_i64]; omega
  have x2 : (0 : Int) ≤ (o.size : Int) - 1 := by omega
  have x3 : ((o.size : Int) - 1).toNat = o.size - 1 := by omega
  have x4 : (o.size : Int) - 1 < (o.size : Int) := by omega
  have x6 : (1 : Int) ≤ (o.size : Int) := by omega
  have x7 : 1 ≤ o.size := by omega
  have qd : ((o[o.size - 1].toNat : Int) != (s[i].toNat : Int)) = false := by simp only [bne_eq_false_iff_eq]; omega
  have q125 : ((s[i].toNat : Int) == 125) = true := (eq_true (c := 125) h hc).2
  clear hc hd hbo hbs
  go_enter Tryz.func38, Tryz.ntmps38
  go_wp2
  go_quiet (fail)
  (try clear x1); (try clear x2); (try clear x3); (try clear x4)
  obtain ⟨w9, hw9⟩ : ∃ w9, (w.alloc (.cells #[.int .i64 0, .int .i64 0, .string ⟨#[]⟩, .int .i64 0, .string ⟨#[]⟩, .int .i64 0, .int .i64 0] 43)).drewN nq = w9 := ⟨_, rfl⟩
  have hb9 : Below w.heap.size w w9 := by rw [← hw9]; exact bel_drewN ((Below.refl _ _).alloc (Nat.le_refl _) _) nq
  have hx9 : w9.heap[w.heap.size]? = some (.cells #[.int .i64 0, .int .i64 0, .string ⟨#[]⟩, .int .i64 0, .string ⟨#[]⟩, .int .i64 0, .int .i64 0] 43) := by rw [← hw9]; exact heap_alloc_new w (.cells #[.int .i64 0, .int .i64 0, .string ⟨#[]⟩, .int .i64 0, .string ⟨#[]⟩, .int .i64 0, .int .i64 0] 43)
  have hl9 : w.heap.size < w9.heap.size := (Array.getElem?_eq_some_iff.1 hx9).1
  rw [hw9]
  clear hw9
  have rc0 := cell_hp hx9 0 _ rfl
  have rf0 := free_hp hx9 0
  have rc1 := cell_hp hx9 1 _ rfl
  have rf1 := free_hp hx9 1
  have rc2 := cell_hp hx9 2 _ rfl
  have rf2 := free_hp hx9 2
  have rc3 := cell_hp hx9 3 _ rfl
  have rf3 := free_hp hx9 3
  have rc4 := cell_hp hx9 4 _ rfl
  have rf4 := free_hp hx9 4
  have rc5 := cell_hp hx9 5 _ rfl
  have rf5 := free_hp hx9 5
  have rc6 := cell_hp hx9 6 _ rfl
  have rf6 := free_hp hx9 6
  clear hx9
  go_wp2
  refine bodyPost_ret (v := .agg #[.int .i64 7, .int .i64 i, .string ⟨#[]⟩, .int .i64 ((i : Int) + 1), .string (o.extract 0 (o.size - 1)), .int .i64 0, .int .i64 0]) (by simp [results, Tryz.results38, go_sem, rc0, rc1, rc2, rc3, rc4, rc5, rc6]) rfl ⟨rfl, ?_⟩
  exact (((((((hb9.setCell (p := ⟨w.heap.size, 0, none⟩) (Nat.le_refl _) _).setCell (p := ⟨w.heap.size, 1, none⟩) (Nat.le_refl _) _).setCell (p := ⟨w.heap.size, 2, none⟩) (Nat.le_refl _) _).setCell (p := ⟨w.heap.size, 3, none⟩) (Nat.le_refl _) _).setCell (p := ⟨w.heap.size, 4, none⟩) (Nat.le_refl _) _).setCell (p := ⟨w.heap.size, 5, none⟩) (Nat.le_refl _) _).setCell (p := ⟨w.heap.size, 6, none⟩) (Nat.le_refl _) _)
end Go.Proofs.YtnnnanemefcmdaaGreatDoor
namespace Go.Proofs.YtnnnanemefcmdaaGreatDoor
open Go.RowKit

theorem last_bt (op : List UInt8) (h : op ≠ []) : op.getLast?.map UInt8.toNat = some (bt ⟨op.toArray⟩ (op.length - 1)) := by
  have hl : op.length - 1 < op.length := by
    have : 0 < op.length := List.length_pos_iff.2 h
    omega
  rw [List.getLast?_eq_getElem?, List.getElem?_eq_getElem hl, Option.map_some, ← bt_get ⟨op.toArray⟩ (op.length - 1) hl]
  rfl
theorem cut_last (op : List UInt8) : (⟨op.toArray⟩ : ByteArray).extract 0 (op.length - 1) = ⟨op.dropLast.toArray⟩ := by
  apply ByteArray.ext
  apply Array.ext'
  simp [ByteArray.data_extract, List.dropLast_eq_take]
theorem flow_cases {c : Nat} (h : flowB c = true) (hc : c < 256) : c = 91 ∨ c = 123 ∨ c = 44 ∨ c = 93 ∨ c = 125 := by
  revert h
  have : ∀ d : Fin 256, flowB d.val = true → d.val = 91 ∨ d.val = 123 ∨ d.val = 44 ∨ d.val = 93 ∨ d.val = 125 := by decide +kernel
  exact fun h => this ⟨c, hc⟩ h

theorem refFlowO_any (s : ByteArray) (i : Nat) (op : List UInt8) (w : World) (hs : s.size ≤ 4000) (ho : op.length ≤ 4000) (h : i < s.size) (hf : flowB (bt s i) = true) :
    Calls Tryz.prog 38 #[.string s, .int .i64 i, .string ⟨op.toArray⟩] w fun e w' => e = .returned (OnV (flO s i op)) ∧ Below w.heap.size w w' := by
  have hz : (⟨op.toArray⟩ : ByteArray).size = op.length := rfl
  have hcs := flow_cases hf (bt_lt s i)
  by_cases h1 : bt s i = 91
  · have e : flO s i op = ⟨4, i, [], i + 1, op ++ [93], 0, 0⟩ := by unfold flO; rw [if_pos h1]
    rw [e, OnV, ← cat7 op [93]]
    exact refFlow_seq s ⟨op.toArray⟩ i hs ho h h1 w
  by_cases h2 : bt s i = 123
  · have e : flO s i op = ⟨6, i, [], i + 1, op ++ [125], 0, 0⟩ := by unfold flO; rw [if_neg h1, if_pos h2]
    rw [e, OnV, ← cat7 op [125]]
    exact refFlow_map s ⟨op.toArray⟩ i hs ho h h2 w
  by_cases h0 : op = []
  · subst h0
    have e : flO s i [] = wrO i := by unfold flO; rw [if_neg h1, if_neg h2, if_pos rfl]
    rw [e]
    exact refFlow_none s ⟨#[]⟩ i h rfl h1 h2 w
  have hp : 0 < op.length := List.length_pos_iff.2 h0
  by_cases h3 : bt s i = 44
  · have e : flO s i op = ⟨3, i, [], i + 1, op, 0, 0⟩ := by unfold flO; rw [if_neg h1, if_neg h2, if_neg h0, if_pos h3]
    rw [e]
    exact refFlow_comma s ⟨op.toArray⟩ i hs ho h hp h3 w
  have hlb := last_bt op h0
  by_cases hd : bt ⟨op.toArray⟩ (op.length - 1) = bt s i
  · have e : flO s i op = ⟨if bt s i = 125 then 7 else 5, i, [], i + 1, op.dropLast, 0, 0⟩ := by
      unfold flO; rw [if_neg h1, if_neg h2, if_neg h0, if_neg h3, if_neg (by rw [hlb, hd]; simp)]
    rw [e, OnV]
    simp only
    rw [← cut_last op]
    by_cases h5 : bt s i = 125
    · rw [if_pos h5]
      exact refFlow_mp s ⟨op.toArray⟩ i hs ho h hp h5 hd w
    · rw [if_neg h5]
      exact refFlow_sq s ⟨op.toArray⟩ i hs ho h hp (by omega) hd w
  · have e : flO s i op = wrO i := by
      unfold flO; rw [if_neg h1, if_neg h2, if_neg h0, if_neg h3, if_pos (by rw [hlb]; intro e; exact hd (Option.some.inj e))]
    rw [e]
    exact refFlow_other s ⟨op.toArray⟩ i hs ho h hp h1 h2 h3 hd w
end Go.Proofs.YtnnnanemefcmdaaGreatDoor
