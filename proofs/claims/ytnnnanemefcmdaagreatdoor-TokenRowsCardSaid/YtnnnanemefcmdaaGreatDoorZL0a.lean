/- Small laws on owned rows and worlds. -/
import Derived.WalkKit
import Derived.WalkLawsBesides
import Derived.Test.YtnnnanemefcmdaaGreatDoorRows
import Derived.Laws.IdiomStrings
import Derived.Laws.BytesArg
import Derived.Laws.NewBlocks
import Derived.WalkSpells
import Derived.Lib.Hide
import Derived.Laws.BitsLemmas
import Derived.Laws.Bits64
import Derived.Deep.QuietTactic
import Derived.BigQuiet
namespace Go.Proofs.YtnnnanemefcmdaaGreatDoor
open Go.RowKit

theorem own_below {w w' : World} {B e size n : Nat} {v : Value} {xs : List Value} (h : w.ownsRow B e size v n xs) (hb : Below w.heap.size w w') : w'.ownsRow B e size v n xs := by
  refine ⟨h.1, ?_⟩
  rcases h.2 with hn | ⟨g, cap, cur, rfl, hg, hgg, rest⟩
  · exact .inl hn
  · exact .inr ⟨g, cap, cur, rfl, hg, by rw [hb.block g (Array.getElem?_eq_some_iff.1 hgg).1]; exact hgg, rest⟩
theorem own_drewN {w : World} {B e size n : Nat} {v : Value} {xs : List Value} (h : w.ownsRow B e size v n xs) (k : Nat) : (w.drewN k).ownsRow B e size v n xs := h
theorem bel_drewN {B : Nat} {a w : World} (h : Below B a w) (q : Nat) : Below B a (w.drewN q) := ⟨h.os, h.tape, h.output, h.size, h.block⟩
theorem below_of_grown {B : Nat} {a w w' : World} {e size n : Nat} {v : Value} {xs : List Value} (h : Below B a w) (hg : w.grownBy w' v.ownBlock) (hB : B ≤ w.heap.size) (hown : w.ownsRow B e size v n xs) : Below B a w' := by
  refine h.grown hg hB ?_
  intro k hk
  rcases hown.2 with ⟨rfl, _⟩ | ⟨g, cap, cur, rfl, hg, _⟩
  · cases hk
  · cases hk; exact hg
theorem cells_new (w : World) (cs : List Value) (t : TypeId) (j : Nat) (u : Value) (h : cs[j]? = some u) :
    (w.alloc (.cells cs.toArray t)).cell? ((⟨w.heap.size, 0, none⟩ : Addr).add j) = some u := by
  rw [show (⟨w.heap.size, 0, none⟩ : Addr).add j = ⟨w.heap.size, j, none⟩ by simp [Addr.add, eq_comm]]
  rw [World.cell?_alloc_at _ _ _ _ rfl]
  simpa using h
end Go.Proofs.YtnnnanemefcmdaaGreatDoor
namespace Go.Proofs.YtnnnanemefcmdaaGreatDoor
open Go.RowKit

/-- Bytes as cells. -/
def bv (l : List UInt8) : List Value := l.map fun b => .int .u8 (b.toNat : Int)
theorem bv_len (l : List UInt8) : (bv l).length = l.length := by simp [bv]
theorem bv_app (l m : List UInt8) : bv (l ++ m) = bv l ++ bv m := by simp [bv]
theorem infoB : (Tryz.prog.info? 5).map (fun i => (i.zero, i.size, i.bytes)) = some (some (.int .u8 0), 1, 1) := by kernel_rfl
/-- The text of a row of the call's own. -/
theorem own_text {w : World} {base : Nat} {v : Value} {l : List UInt8} (h : w.ownsRow base 5 1 v l.length (bv l)) : (convert 52 9 v).run Tryz.prog w = .ok (.string ⟨l.toArray⟩) w := by
  have hc := fun g hg => h.cells (g := g) hg
  rcases h.2 with ⟨rfl, h0⟩ | ⟨g, cap, cur, rfl, _⟩
  · obtain rfl := List.eq_nil_of_length_eq_zero h0
    exact run_convert_bytes_nil w 52 5 Tryz.underlying52 Tryz.underlying5 0 0 9 Tryz.underlying9
  · refine run_convert_bytes_back w 52 9 5 ⟨g, 0, none⟩ cap l Tryz.underlying52 Tryz.underlying5 Tryz.underlying9 (fun j hj => ?_)
    exact hc g rfl j _ (by simp [bv, List.getElem?_eq_getElem hj])
/-- A literal's row. -/
theorem own_lit (w : World) (l : List UInt8) (hl : l.length ≤ maxLen) (b : Nat) (hb : b ≤ w.heap.size) : (w.alloc (.cells (bv l).toArray 5)).ownsRow b 5 1 (.slice (some ⟨w.heap.size, 0, none⟩) l.length l.length) l.length (bv l) :=
  ⟨by simp [bv], .inr ⟨w.heap.size, l.length, (bv l).toArray, rfl, hb, heap_alloc_new w _, Nat.le_refl _, hl, by simp [bv], by simp only [bv, Nat.mul_one]; exact List.take_of_length_le (by simp)⟩⟩
end Go.Proofs.YtnnnanemefcmdaaGreatDoor
namespace Go.Proofs.YtnnnanemefcmdaaGreatDoor

/-- A byte, as a number. -/
def bt (s : ByteArray) (j : Nat) : Nat := (s.get! j).toNat
/-- The character that begins at i and how many bytes it has; none: (0, 0). -/
def chr (s : ByteArray) (i : Nat) : Nat × Nat := if Utf8.decode s i = (65533, 1) then (0, 0) else Utf8.decode s i

theorem bt_lt (s : ByteArray) (j : Nat) : bt s j < 256 := (s.get! j).toNat_lt
theorem bt_get (s : ByteArray) (j : Nat) (h : j < s.size) : (s[j]'h).toNat = bt s j := by
  have e : s.get! j = s[j]'h := by simp [ByteArray.get!, getElem!_pos, h]; rfl
  rw [bt, e]

theorem valid_nat (c : Nat) : Utf8.valid (c : Int) = decide (c < 55296 ∨ 57344 ≤ c ∧ c ≤ 1114111) := by
  rw [Bool.eq_iff_iff]; simp [Utf8.valid]; omega

theorem chr_a {s : ByteArray} {i : Nat} (h : bt s i < 128) : chr s i = (bt s i, 1) := by
  have e : Utf8.decode s i = (bt s i, 1) := by
    unfold bt at *; simp [Utf8.decode, h]
  rw [chr, e]; simp; omega

theorem chr_b {s : ByteArray} {i : Nat} (h : 128 ≤ bt s i) (h' : bt s i < 194) : chr s i = (0, 0) := by
  have e : Utf8.decode s i = (65533, 1) := by
    have g1 := bt_lt s (i + 1)
    unfold bt at *
    simp only [Utf8.decode, Nat.add_zero, Utf8.runeError]
    rw [if_neg (by omega)]
    by_cases c : (s.get! i).toNat / 32 = 6
    · by_cases d : (i + 1 < s.size ∧ (s.get! (i + 1)).toNat / 64 = 2)
      · rw [if_pos (by simp [c, d]), if_neg (by omega)]
      · rw [if_neg (by simp [c]; omega), if_neg (by simp; omega), if_neg (by simp; omega)]
    · rw [if_neg (by simp [c]), if_neg (by simp; omega), if_neg (by simp; omega)]
  simp [chr, e]

theorem chr_f {s : ByteArray} {i : Nat} (h : 245 ≤ bt s i) : chr s i = (0, 0) := by
  have e : Utf8.decode s i = (65533, 1) := by
    have g1 := bt_lt s (i + 1); have g2 := bt_lt s (i + 2); have g3 := bt_lt s (i + 3)
    unfold bt at *
    simp only [Utf8.decode, Nat.add_zero, Utf8.runeError, valid_nat]
    rw [if_neg (by omega), if_neg (by simp; omega), if_neg (by simp; omega)]
    by_cases d : (s.get! i).toNat / 8 = 30 ∧ (i + 1 < s.size ∧ (s.get! (i + 1)).toNat / 64 = 2) ∧ (i + 2 < s.size ∧ (s.get! (i + 2)).toNat / 64 = 2) ∧ (i + 3 < s.size ∧ (s.get! (i + 3)).toNat / 64 = 2)
    · rw [if_pos (by simp [d]), if_neg (by simp; omega)]
    · rw [if_neg (by simp; omega)]
  simp [chr, e]

theorem chr_c {s : ByteArray} {i : Nat} (h : 194 ≤ bt s i) (h' : bt s i < 224) (hz : i + 1 < s.size) (h1 : 128 ≤ bt s (i + 1)) (h1' : bt s (i + 1) < 192) :
    chr s i = ((bt s i - 192) * 64 + (bt s (i + 1) - 128), 2) := by
  have e : Utf8.decode s i = ((bt s i - 192) * 64 + (bt s (i + 1) - 128), 2) := by
    unfold bt at *
    simp only [Utf8.decode, Nat.add_zero, Utf8.runeError]
    rw [if_neg (by omega), if_pos (by simp; omega), if_pos (by omega)]
    simp; omega
  rw [chr, e]; simp

theorem chr_c_no {s : ByteArray} {i : Nat} (h : 194 ≤ bt s i) (h' : bt s i < 224) (h1 : s.size ≤ i + 1 ∨ bt s (i + 1) < 128 ∨ 192 ≤ bt s (i + 1)) : chr s i = (0, 0) := by
  have e : Utf8.decode s i = (65533, 1) := by
    unfold bt at *
    simp only [Utf8.decode, Nat.add_zero, Utf8.runeError]
    rw [if_neg (by omega), if_neg (by simp; omega), if_neg (by simp; omega), if_neg (by simp; omega)]
  simp [chr, e]

theorem chr_d {s : ByteArray} {i : Nat} (h : 224 ≤ bt s i) (h' : bt s i < 240) (hz : i + 2 < s.size) (h1 : 128 ≤ bt s (i + 1)) (h1' : bt s (i + 1) < 192)
    (h2 : 128 ≤ bt s (i + 2)) (h2' : bt s (i + 2) < 192) (c : Nat) (hc : c + 224 * 4096 + 128 * 64 + 128 = bt s i * 4096 + bt s (i + 1) * 64 + bt s (i + 2)) :
    chr s i = if 2048 ≤ c ∧ (c < 55296 ∨ 57343 < c) then (c, 3) else (0, 0) := by
  have e : Utf8.decode s i = if 2048 ≤ c ∧ (c < 55296 ∨ 57343 < c) then (c, 3) else (65533, 1) := by
    unfold bt at *
    simp only [Utf8.decode, Nat.add_zero, Utf8.runeError, valid_nat]
    rw [if_neg (by omega), if_neg (by simp; omega), if_pos (by simp; omega)]
    have ec : (s.get! i).toNat % 16 * 4096 + (s.get! (i + 1)).toNat % 64 * 64 + (s.get! (i + 2)).toNat % 64 = c := by omega
    simp only [ec]
    by_cases k : 2048 ≤ c ∧ (c < 55296 ∨ 57343 < c)
    · rw [if_pos k, if_pos (by simp; omega)]
    · rw [if_neg k, if_neg (by simp; omega)]
  rw [chr, e]
  by_cases k : 2048 ≤ c ∧ (c < 55296 ∨ 57343 < c)
  · simp [k]
  · simp [k]

theorem chr_d_no {s : ByteArray} {i : Nat} (h : 224 ≤ bt s i) (h' : bt s i < 240) (h1 : s.size ≤ i + 2 ∨ bt s (i + 1) < 128 ∨ 192 ≤ bt s (i + 1) ∨ bt s (i + 2) < 128 ∨ 192 ≤ bt s (i + 2)) : chr s i = (0, 0) := by
  have e : Utf8.decode s i = (65533, 1) := by
    unfold bt at *
    simp only [Utf8.decode, Nat.add_zero, Utf8.runeError]
    rw [if_neg (by omega), if_neg (by simp; omega), if_neg (by simp; omega), if_neg (by simp; omega)]
  simp [chr, e]

theorem chr_e {s : ByteArray} {i : Nat} (h : 240 ≤ bt s i) (h' : bt s i < 245) (hz : i + 3 < s.size) (h1 : 128 ≤ bt s (i + 1)) (h1' : bt s (i + 1) < 192)
    (h2 : 128 ≤ bt s (i + 2)) (h2' : bt s (i + 2) < 192) (h3 : 128 ≤ bt s (i + 3)) (h3' : bt s (i + 3) < 192)
    (c : Nat) (hc : c + 240 * 262144 + 128 * 4096 + 128 * 64 + 128 = bt s i * 262144 + bt s (i + 1) * 4096 + bt s (i + 2) * 64 + bt s (i + 3)) :
    chr s i = if 65536 ≤ c ∧ c < 1114112 then (c, 4) else (0, 0) := by
  have e : Utf8.decode s i = if 65536 ≤ c ∧ c < 1114112 then (c, 4) else (65533, 1) := by
    unfold bt at *
    simp only [Utf8.decode, Nat.add_zero, Utf8.runeError, valid_nat]
    rw [if_neg (by omega), if_neg (by simp; omega), if_neg (by simp; omega), if_pos (by simp; omega)]
    have ec : (s.get! i).toNat % 8 * 262144 + (s.get! (i + 1)).toNat % 64 * 4096 + (s.get! (i + 2)).toNat % 64 * 64 + (s.get! (i + 3)).toNat % 64 = c := by omega
    simp only [ec]
    by_cases k : 65536 ≤ c ∧ c < 1114112
    · rw [if_pos k, if_pos (by simp; omega)]
    · rw [if_neg k, if_neg (by simp; omega)]
  rw [chr, e]
  by_cases k : 65536 ≤ c ∧ c < 1114112
  · simp [k]
  · simp [k]

theorem chr_e_no {s : ByteArray} {i : Nat} (h : 240 ≤ bt s i) (h' : bt s i < 245) (h1 : s.size ≤ i + 3 ∨ bt s (i + 1) < 128 ∨ 192 ≤ bt s (i + 1) ∨ bt s (i + 2) < 128 ∨ 192 ≤ bt s (i + 2) ∨ bt s (i + 3) < 128 ∨ 192 ≤ bt s (i + 3)) : chr s i = (0, 0) := by
  have e : Utf8.decode s i = (65533, 1) := by
    unfold bt at *
    simp only [Utf8.decode, Nat.add_zero, Utf8.runeError]
    rw [if_neg (by omega), if_neg (by simp; omega), if_neg (by simp; omega), if_neg (by simp; omega)]
  simp [chr, e]
end Go.Proofs.YtnnnanemefcmdaaGreatDoor
namespace Go.Proofs.YtnnnanemefcmdaaGreatDoor
open Go.RowKit

/-- Each mark twice. -/
def dbl (l : List UInt8) : List UInt8 := l.flatMap fun b => if b.toNat = 39 then [39, 39] else [b]
theorem dbl_snoc (l : List UInt8) (b : UInt8) : dbl (l ++ [b]) = dbl l ++ (if b.toNat = 39 then [39, 39] else [b]) := by simp [dbl]
theorem dbl_len (l : List UInt8) : (dbl l).length ≤ 2 * l.length := by
  induction l with
  | nil => simp [dbl]
  | cons b l ih =>
    have : dbl (b :: l) = (if b.toNat = 39 then [39, 39] else [b]) ++ dbl l := by simp [dbl]
    rw [this, List.length_append]
    split <;> simp <;> omega
def wsL (l : List UInt8) : List UInt8 := 39 :: dbl l ++ [39]
theorem take_snoc8 (s : ByteArray) (k : Nat) (h : k < s.size) : s.data.toList.take (k + 1) = s.data.toList.take k ++ [s[k]] := by
  rw [List.take_succ_eq_append_getElem (by simpa using h)]; rfl

end Go.Proofs.YtnnnanemefcmdaaGreatDoor
namespace Go.Proofs.YtnnnanemefcmdaaGreatDoor
open Go.RowKit

def dig (d : Nat) : UInt8 := UInt8.ofNat (if 9 < d then 87 + d else 48 + d)
/-- The last k hexadecimal digits of v. -/
def smallL (v : Nat) : Nat → List UInt8
  | 0 => []
  | k + 1 => dig (v / 16 ^ k % 16) :: smallL v k
theorem smallL_len (v k : Nat) : (smallL v k).length = k := by induction k with
  | zero => rfl
  | succ k ih => simp [smallL, ih]
theorem dig_val (d : Nat) (h : d < 16) : ((dig d).toNat : Int) = if 9 < d then 87 + (d : Int) else 48 + (d : Int) := by
  unfold dig
  split <;> (simp; omega)

end Go.Proofs.YtnnnanemefcmdaaGreatDoor
namespace Go.Proofs.YtnnnanemefcmdaaGreatDoor
open Go.RowKit

theorem own_mono8 {w : World} {b : Nat} {e : TypeId} {size n : Nat} {v : Value} {xs : List Value} (h : w.ownsRow (b + 1) e size v n xs) : w.ownsRow b e size v n xs := by
  refine ⟨h.1, ?_⟩
  rcases h.2 with h | ⟨g, cap, cur, rfl, hg, rest⟩
  · exact .inl h
  · exact .inr ⟨g, cap, cur, rfl, by omega, rest⟩
/-- A text that was read, or that is too long. -/
def gotV (t : List UInt8) (at' next : Int) : Value := if 1024 < t.length then .agg #[.string ⟨#[]⟩, .int .i64 0, .int .i64 5, .int .i64 at'] else .agg #[.string ⟨t.toArray⟩, .int .i64 next, .int .i64 0, .int .i64 0]
theorem cell_heap4 {u : World} {b : Nat} {cs : Array Value} {t : TypeId} (h : u.heap[b]? = some (.cells cs t)) (j : Nat) (v : Value) (hv : cs[j]? = some v) : u.cell? ⟨b, j, none⟩ = some v := by
  simp [World.cell?, h, hv]
theorem free_heap4 {u : World} {b : Nat} {cs : Array Value} {t : TypeId} (h : u.heap[b]? = some (.cells cs t)) (j : Nat) : u.frozen? ⟨b, j, none⟩ = false := by
  simp [World.frozen?, h]
/-- A block ahead of the rows stays through an append. -/
theorem res_keep {wr w1 : World} {e : TypeId} {n B : Nat} {v : Value} {xs : List Value} (hown : wr.ownsRow (B + 1) e 1 v n xs) (o : Obj) (hg : (wr.alloc o).grownBy w1 v.ownBlock) (hB : B < wr.heap.size) {x : Option Obj} (h : wr.heap[B]? = x) : w1.heap[B]? = x := by
  rw [hg.block B (by simp; omega) (fun e => by have := (hown.lt B e.symm).1; omega), Below.heap_alloc _ _ _ hB]; exact h

/-- What stands from place i on up to the second mark, and the place behind it. -/
def rdS (s : ByteArray) : Nat → Nat → Option (List UInt8 × Nat)
  | 0, _ => none
  | f + 1, i => if h : i < s.size then
      (if bt s i = 39 then (if i + 1 < s.size ∧ bt s (i + 1) = 39 then (rdS s f (i + 2)).map fun p => (39 :: p.1, p.2) else some ([], i + 1))
       else (rdS s f (i + 1)).map fun p => (s[i] :: p.1, p.2)) else none
/-- What Single answers where the first mark stands. -/
def sglV (s : ByteArray) (at' : Nat) : Value := match rdS s s.size (at' + 1) with
  | some (l, n) => gotV l at' n
  | none => .agg #[.string ⟨#[]⟩, .int .i64 0, .int .i64 3, .int .i64 s.size]
def pre (o : List UInt8) (r : Option (List UInt8 × Nat)) : Option (List UInt8 × Nat) := r.map fun p => (o ++ p.1, p.2)
theorem rdS_end (s : ByteArray) (f i : Nat) (h : s.size ≤ i) : rdS s f i = none := by
  cases f with
  | zero => rfl
  | succ f => rw [rdS, dif_neg (by omega)]
theorem rdS_stop {s : ByteArray} {f i : Nat} (h : i < s.size) (h1 : bt s i = 39) (h2 : ¬ (i + 1 < s.size ∧ bt s (i + 1) = 39)) : rdS s (f + 1) i = some ([], i + 1) := by rw [rdS, dif_pos h, if_pos h1, if_neg h2]
theorem rdS_two {s : ByteArray} {f i : Nat} (h : i < s.size) (h1 : bt s i = 39) (h2 : i + 1 < s.size) (h3 : bt s (i + 1) = 39) : rdS s (f + 1) i = pre [39] (rdS s f (i + 2)) := by rw [rdS, dif_pos h, if_pos h1, if_pos ⟨h2, h3⟩]; rfl
theorem rdS_one {s : ByteArray} {f i : Nat} (h : i < s.size) (h1 : bt s i ≠ 39) : rdS s (f + 1) i = pre [s[i]] (rdS s f (i + 1)) := by rw [rdS, dif_pos h, if_neg h1]; rfl
theorem pre_pre (o p : List UInt8) (r : Option (List UInt8 × Nat)) : pre o (pre p r) = pre (o ++ p) r := by cases r <;> simp [pre]

end Go.Proofs.YtnnnanemefcmdaaGreatDoor
namespace Go.Proofs.YtnnnanemefcmdaaGreatDoor
open Go.RowKit

def TzCell (w : World) : Prop := w.cell? ⟨7, 15, none⟩ = some (.int .u8 4)

set_option maxRecDepth 100000 in
set_option maxHeartbeats 1000000 in
theorem tz16 (w : World) (h : TzCell w) :
    Calls Tryz.prog 151 #[.int .u64 16] w fun e w' => e = .returned (.int .i64 4) ∧ w = w' := by
  unfold TzCell at h
  have e1 : IntKind.u64.wrap (-16) = 18446744073709551600 := by rw [IntKind.wrap_u64]; decide
  have e2 : bits BinOp.and IntKind.u64 16 18446744073709551600 = 16 := by decide +kernel
  have e3 : IntKind.u64.wrap (16 * 285870213051353865) = 4573923408821661840 := by rw [IntKind.wrap_u64]; decide
  have e4 : IntKind.u64.wrap 4573923408821661840 = 4573923408821661840 := by rw [IntKind.wrap_u64]; decide
  go_enter Tryz.func151, Tryz.ntmps151
  go_wp2
  refine bodyPost_ret (v := .int .i64 4) (by simp [results, Tryz.results151, go_sem]) rfl ⟨rfl, rfl⟩

theorem wraps63 (n : Int) (h₀ : 0 ≤ n) (h₁ : n < 2 ^ 63) : IntKind.u64.wrap n = n := by rw [IntKind.wrap_u64]; omega
theorem and15 (y : Nat) (h : y < 65536) : bits .and .u64 (y : Int) 15 = ((y % 16 : Nat) : Int) := by
  have h := bits_mask .u64 63 (by decide) wraps63 4 (by decide) (y : Int) (by omega) (by omega)
  have e : ((2 : Int) ^ 4 - 1) = 15 := by decide
  have e2 : ((2 : Int) ^ 4) = 16 := by decide
  rw [e, e2] at h
  rw [h]; omega
theorem tz_lt {w : World} (h : TzCell w) : 7 < w.heap.size := World.block_lt_of_cell? _ _ h
theorem tz_alloc {w : World} (h : TzCell w) (o : Obj) : TzCell (w.alloc o) := (World.cell?_alloc_lt _ _ _ (tz_lt h)).trans h
/-- A row of 65 bytes, whose last k are the last k digits of v. -/
def Tail (w : World) (B v k : Nat) : Prop := ∃ cs : Array Value, w.heap[B]? = some (.cells cs 170 (0, 0)) ∧ cs.size = 65 ∧ cs.toList.drop (65 - k) = bv (smallL v k)
theorem dig_str (d : Nat) (h : d < 16) (h' : d < (ByteArray.mk #[48, 49, 50, 51, 52, 53, 54, 55, 56, 57, 97, 98, 99, 100, 101, 102, 103, 104, 105, 106, 107, 108, 109, 110, 111, 112, 113, 114, 115, 116, 117, 118, 119, 120, 121, 122]).size) : (ByteArray.mk #[48, 49, 50, 51, 52, 53, 54, 55, 56, 57, 97, 98, 99, 100, 101, 102, 103, 104, 105, 106, 107, 108, 109, 110, 111, 112, 113, 114, 115, 116, 117, 118, 119, 120, 121, 122])[d]'h' = dig d := by
  have : ∀ d : Fin 16, (ByteArray.mk #[48, 49, 50, 51, 52, 53, 54, 55, 56, 57, 97, 98, 99, 100, 101, 102, 103, 104, 105, 106, 107, 108, 109, 110, 111, 112, 113, 114, 115, 116, 117, 118, 119, 120, 121, 122])[d.val]'(Nat.lt_of_lt_of_le d.isLt (by decide)) = dig d.val := by decide +kernel
  exact this ⟨d, h⟩
theorem tail_step {cs : Array Value} {v k y : Nat} (hsz : cs.size = 65) (hk : k ≤ 3) (hdr : cs.toList.drop (65 - k) = bv (smallL v k)) (hy : y = v / 16 ^ k) :
    (cs.setIfInBounds (65 - k - 1) (.int .u8 ((dig (y % 16)).toNat : Int))).toList.drop (65 - (k + 1)) = bv (smallL v (k + 1)) := by
  have e : 65 - (k + 1) = 65 - k - 1 := by omega
  rw [e, Array.toList_setIfInBounds, List.drop_eq_getElem_cons (by simp; omega)]
  have e2 : 65 - k - 1 + 1 = 65 - k := by omega
  rw [e2]
  simp only [List.getElem_set_self, List.drop_set, if_pos (show 65 - k - 1 < 65 - k by omega), hdr, smallL, hy]
  rfl
/-- The row with one digit more. -/
theorem Tail.next {wr : World} {B v k y : Nat} {cs : Array Value} (hcs : wr.heap[B]? = some (.cells cs 170 (0, 0))) (hsz : cs.size = 65) (hk : k ≤ 3) (hdr : cs.toList.drop (65 - k) = bv (smallL v k)) (hy : y = v / 16 ^ k) :
    Tail (wr.setCell ⟨B, 65 - k - 1, none⟩ (.int .u8 ((dig (y % 16)).toNat : Int))) B v (k + 1) :=
  ⟨_, heap_setCell_same wr B _ cs 170 _ hcs, by simpa using hsz, tail_step hsz hk hdr hy⟩
theorem Tail.cells {w : World} {B v k : Nat} (h : Tail w B v k) (_hk : k ≤ 4) (j : Nat) (hj : j < (smallL v k).length) : w.cell? ((⟨B, 65 - k, none⟩ : Addr).add j) = some (.int .u8 ((smallL v k)[j].toNat : Int)) := by
  obtain ⟨cs, hcs, hsz, hdr⟩ := h
  rw [show (⟨B, 65 - k, none⟩ : Addr).add j = ⟨B, 65 - k + j, none⟩ by simp [Addr.add]]
  refine cell_heap4 hcs _ _ ?_
  have : (cs.toList.drop (65 - k))[j]? = some (.int .u8 ((smallL v k)[j].toNat : Int)) := by
    rw [hdr]; simp [bv, List.getElem?_eq_getElem hj]
  rw [List.getElem?_drop] at this
  simpa using this
theorem slice65 (B l : Nat) (x : Int) (hx : x = l) (hl : l < 65) (wx : World) :
    (Instr.sliceAt 170 (.pointer (some ⟨B, 0, none⟩)) (some (.int .i64 x)) none none).run Tryz.prog wx = .ok (.slice (some ⟨B, l, none⟩) (65 - l) (65 - l)) wx := by
  have ha : Tryz.prog.arrayLen 170 = 65 := by kernel_rfl
  have hs : (sizeOf (Tryz.prog.elem 170)).run Tryz.prog wx = .ok 1 wx := by
    have he : Tryz.prog.elem 170 = 5 := by kernel_rfl
    rw [he]
    simp [go_sem]
  subst hx
  rw [run_sliceAt_array_l wx 170 ⟨B, 0, none⟩ (by kernel_rfl) .i64 l (by omega) (by rw [ha]; omega), hs]
  simp only [Result.andThen_ok, slicedAt, ha, Int.toNat_natCast, Nat.mul_one]
  rw [if_neg (by omega)]
  simp [Addr.add]
  omega


set_option maxRecDepth 100000 in
set_option maxHeartbeats 4000000 in
theorem fbits_any (v : Nat) (hv : v < 65536) (w : World) (h : TzCell w) :
    Calls Tryz.prog 132 #[.slice none 0 0, .int .u64 v, .int .i64 16, .bool false, .bool false] w fun e w' => ∃ n, 1 ≤ n ∧ n ≤ 4 ∧ v < 16 ^ n ∧ (n = 1 ∨ 16 ^ (n - 1) ≤ v) ∧ e = .returned (.tuple #[.slice none 0 0, .string ⟨(smallL v n).toArray⟩]) ∧ Below w.heap.size w w' := by
  have e4 : bits BinOp.and IntKind.i64 16 15 = 0 := by decide +kernel
  go_enter Tryz.func132, Tryz.ntmps132
  go_wp2_with (first | (go_at_call 151; refine (tz16 _ ?_).mono ?_) | go_in)
  · exact tz_alloc h _
  · rintro e w' ⟨rfl, rfl⟩
    go_wp2
    go_loopw [1, 13] (fun u i wr => ∃ k y : Nat, u = .int .u64 y ∧ i = .int .i64 ((65 - k : Nat) : Int) ∧ k ≤ 3 ∧ y < 65536 ∧ Hid (y = v / 16 ^ k) ∧ Hid (k = 0 ∨ 16 ^ k ≤ v) ∧ Tail wr w.heap.size v k ∧ Below w.heap.size w wr) (fun u _ _ => (intOf u).toNat)
    case atStart => exact ⟨0, v, rfl, rfl, by omega, hv, Lib.hid (by simp), Lib.hid (.inl rfl), ⟨_, heap_alloc_new w _, by kernel_rfl, by rw [show Tryz.zeroCells170.toList.drop 65 = [] by kernel_rfl]; rfl⟩, (Below.refl _ _).alloc (Nat.le_refl _) _⟩
    case round =>
      obtain ⟨k, y, rfl, rfl, hk, hy, hyv, hkv, ht, hb⟩ := hrel
      obtain ⟨cs, hcs, hsz, hdr⟩ := ht
      have hwl : w.heap.size < wr.heap.size := (Array.getElem?_eq_some_iff.1 hcs).1
      obtain ⟨c0, hc0⟩ : ∃ c0, cs[65 - k - 1]? = some c0 := ⟨_, Array.getElem?_eq_getElem (by omega)⟩
      have rc := cell_heap4 hcs (65 - k - 1) c0 hc0
      have rf := free_heap4 hcs (65 - k - 1)
      have HCS := Lib.hid hcs
      obtain ⟨d, hd⟩ : ∃ d, y % 16 = d := ⟨_, rfl⟩
      have hd16 : d < 16 := by omega
      clear hcs
      have hdig := dig_str d hd16
      by_cases h16 : 16 ≤ y
      · have hand := and15 y hy
        rw [hd] at hand
        have HN := Lib.hid (show Tail (wr.setCell ⟨w.heap.size, 65 - k - 1, none⟩ (.int .u8 ((dig d).toNat : Int))) w.heap.size v (k + 1) from hd ▸ Tail.next HCS.out hsz hk hdr hyv.out)
        have hy2 := Lib.hid (show y / 16 = v / 16 ^ (k + 1) by rw [hyv.out, Nat.div_div_eq_div_mul, Nat.pow_succ])
        have hkv2 : 16 ^ (k + 1) ≤ v := by
          have h1 : 1 ≤ v / 16 ^ (k + 1) := by have := hy2.out; omega
          have := Nat.div_mul_le_self v (16 ^ (k + 1))
          calc 16 ^ (k + 1) = 1 * 16 ^ (k + 1) := by omega
            _ ≤ v / 16 ^ (k + 1) * 16 ^ (k + 1) := Nat.mul_le_mul_right _ h1
            _ ≤ v := this
        have hk3 : k + 1 ≤ 3 := by
          rcases Nat.lt_or_ge k 3 with h | h
          · omega
          · obtain rfl : k = 3 := by omega
            have : (16 : Nat) ^ (3 + 1) = 65536 := by decide
            omega
        have HK := Lib.hid hkv2
        clear hkv2 hdr
        go_wp2
        refine ⟨⟨k + 1, y / 16, by simp, by congr 1; omega, hk3, by omega, Lib.hid hy2.out, Lib.hid (.inr HK.out), HN.out, hb.setCell (p := ⟨w.heap.size, _, none⟩) (Nat.le_refl _) _⟩, by simp [intOf]; omega⟩
      · have hyd : y = d := by omega
        subst hyd
        have HN := Lib.hid (show Tail (wr.setCell ⟨w.heap.size, 65 - k - 1, none⟩ (.int .u8 ((dig y).toNat : Int))) w.heap.size v (k + 1) from by
          have := Tail.next HCS.out hsz hk hdr hyv.out
          rwa [hd] at this)
        have hsl := slice65 w.heap.size (65 - k - 1) (((65 - k : Nat) : Int) - 1) (by omega) (by omega)
        have hlen : 65 - (65 - k - 1) = (smallL v (k + 1)).length := by rw [smallL_len]; omega
        rw [hlen] at hsl
        have hcv : (convert 52 9 (.slice (some ⟨w.heap.size, 65 - k - 1, none⟩) (smallL v (k + 1)).length (smallL v (k + 1)).length)).run Tryz.prog (wr.setCell ⟨w.heap.size, 65 - k - 1, none⟩ (.int .u8 ((dig y).toNat : Int))) = .ok (.string ⟨(smallL v (k + 1)).toArray⟩) (wr.setCell ⟨w.heap.size, 65 - k - 1, none⟩ (.int .u8 ((dig y).toNat : Int))) :=
          run_convert_bytes_back _ 52 9 5 ⟨w.heap.size, 65 - k - 1, none⟩ _ (smallL v (k + 1)) Tryz.underlying52 Tryz.underlying5 Tryz.underlying9 (fun j hj => HN.out.cells (by omega) j hj)
        have HV := Lib.hid (show v < 16 ^ (k + 1) by
          have h1 : v / 16 ^ k < 16 := by rw [← hyv.out]; omega
          have := (Nat.div_lt_iff_lt_mul (Nat.pow_pos (by decide))).1 h1
          rw [Nat.pow_succ]; omega)
        have HK : Hid (k + 1 = 1 ∨ 16 ^ (k + 1 - 1) ≤ v) := Lib.hid (by rcases hkv.out with h | h
                                                                        · left; omega
                                                                        · right; simpa using h)
        clear hlen hdr
        go_wp2
        refine bodyPost_ret (v := .tuple #[.slice none 0 0, .string ⟨(smallL v (k + 1)).toArray⟩]) (by simp [results, Tryz.results132, go_sem]) rfl ⟨k + 1, by omega, by omega, HV.out, HK.out, rfl, ?_⟩
        exact hb.setCell (p := ⟨w.heap.size, _, none⟩) (Nat.le_refl _) _

set_option maxRecDepth 100000 in
set_option maxHeartbeats 1000000 in
theorem format16 (v : Nat) (hv : v < 65536) (w : World) (h : TzCell w) :
    Calls Tryz.prog 85 #[.int .i64 v, .int .i64 16] w fun e w' => ∃ n, 1 ≤ n ∧ n ≤ 4 ∧ v < 16 ^ n ∧ (n = 1 ∨ 16 ^ (n - 1) ≤ v) ∧ e = .returned (.string ⟨(smallL v n).toArray⟩) ∧ Below w.heap.size w w' := by
  have hw : IntKind.u64.wrap (v : Int) = v := by rw [IntKind.wrap_u64]; omega
  go_enter Tryz.func85, Tryz.ntmps85
  go_wp2_with (first | (go_at_call 132; refine (fbits_any v hv _ h).mono ?_) | go_in)
  rintro e w' ⟨n, h1, h2, h3, h4, rfl, hb⟩
  go_wp2
  refine bodyPost_ret (v := .string ⟨(smallL v n).toArray⟩) (by simp [results, Tryz.results85, go_sem]) rfl ⟨n, h1, h2, h3, h4, rfl, hb⟩
#print axioms format16
end Go.Proofs.YtnnnanemefcmdaaGreatDoor
namespace Go.Proofs.YtnnnanemefcmdaaGreatDoor
open Go.RowKit

/-- A hexadecimal digit's number; -1: none. -/
def hexN (c : Nat) : Int := if 48 ≤ c ∧ c ≤ 57 then (c : Int) - 48 else if 97 ≤ c ∧ c ≤ 102 then (c : Int) - 87 else if 65 ≤ c ∧ c ≤ 70 then (c : Int) - 55 else -1
theorem hexN_range (c : Nat) : -1 ≤ hexN c ∧ hexN c ≤ 15 := by unfold hexN; split <;> (try split) <;> (try split) <;> omega
theorem ret_i {a b : Int} (h : a = b) : Ending.returned (.int .i64 a) = .returned (.int .i64 b) := by rw [h]
theorem ret_ii {a b a' b' : Int} (h : a = a') (h' : b = b') : Ending.returned (.tuple #[.int .i64 a, .int .i64 b]) = .returned (.tuple #[.int .i64 a', .int .i64 b']) := by rw [h, h']

/-- The number of n hexadecimal digits from i on. -/
def numO (s : ByteArray) (i : Nat) : Nat → Option Nat
  | 0 => some 0
  | k + 1 => match numO s i k with
    | none => none
    | some v => if hexN (bt s (i + k)) < 0 then none else some (v * 16 + (hexN (bt s (i + k))).toNat)
def numR (s : ByteArray) (i n : Nat) : Int := if s.size < i + n then -1 else match numO s i n with | none => -1 | some v => v
theorem numO_none {s : ByteArray} {i k n : Nat} (h : numO s i k = none) (hk : k ≤ n) : numO s i n = none := by
  induction hk with
  | refl => exact h
  | step _ ih => simp [numO, ih]
theorem numO_le {s : ByteArray} {i n v : Nat} (h : numO s i n = some v) : v < 16 ^ n := by
  induction n generalizing v with
  | zero => simp [numO] at h; omega
  | succ n ih =>
    simp only [numO] at h
    split at h
    · cases h
    · rename_i v0 h0
      have := ih h0
      have := hexN_range (bt s (i + n))
      split at h
      · cases h
      · cases h; rw [Nat.pow_succ]; omega
theorem numR_range (s : ByteArray) (i n : Nat) : -1 ≤ numR s i n ∧ numR s i n < 16 ^ n := by
  have hp : (0 : Int) < 16 ^ n := Int.pow_pos (by decide)
  unfold numR
  split
  · omega
  · split
    · omega
    · rename_i v h
      have := numO_le h
      have h2 : ((v : Nat) : Int) < ((16 ^ n : Nat) : Int) := by exact_mod_cast this
      simp at h2
      omega

/-- A small escape's character and its length; (0, 0): none. -/
def escN (s : ByteArray) (i : Nat) : Int × Int :=
  if i + 1 = s.size then (0, 0)
  else if bt s (i + 1) = 92 ∨ bt s (i + 1) = 34 then ((bt s (i + 1) : Int), 2)
  else if bt s (i + 1) = 110 then (10, 2)
  else if bt s (i + 1) = 116 then (9, 2)
  else if bt s (i + 1) = 120 then (if numR s (i + 2) 2 < 0 then (0, 0) else (numR s (i + 2) 2, 4))
  else if bt s (i + 1) = 117 then (if numR s (i + 2) 4 < 0 ∨ 55296 ≤ numR s (i + 2) 4 ∧ numR s (i + 2) 4 < 57344 then (0, 0) else (numR s (i + 2) 4, 6))
  else (0, 0)
end Go.Proofs.YtnnnanemefcmdaaGreatDoor
namespace Go.Proofs.YtnnnanemefcmdaaGreatDoor
open Go.RowKit

theorem nbyte {s : ByteArray} {i c : Nat} (h : i < s.size) (hc : bt s i ≠ c) : ((s[i].toNat : Int) == c) = false := by
  have e := bt_get s i h
  simp only [beq_eq_false_iff_ne, ne_eq]; omega
theorem ybyte {s : ByteArray} {i c : Nat} (h : i < s.size) (hc : bt s i = c) : ((s[i].toNat : Int) == c) = true := by
  have e := bt_get s i h
  simp only [beq_iff_eq]; omega

end Go.Proofs.YtnnnanemefcmdaaGreatDoor
namespace Go.Proofs.YtnnnanemefcmdaaGreatDoor
open Go.RowKit

/-- A character's bytes. -/
def encB (c : Nat) : List UInt8 :=
  if c < 128 then [UInt8.ofNat c]
  else if c < 2048 then [UInt8.ofNat (192 + c / 64), UInt8.ofNat (128 + c % 64)]
  else if c < 65536 then [UInt8.ofNat (224 + c / 4096), UInt8.ofNat (128 + c / 64 % 64), UInt8.ofNat (128 + c % 64)]
  else [UInt8.ofNat (240 + c / 262144), UInt8.ofNat (128 + c / 4096 % 64), UInt8.ofNat (128 + c / 64 % 64), UInt8.ofNat (128 + c % 64)]
theorem encB_len (c : Nat) : 1 ≤ (encB c).length ∧ (encB c).length ≤ 4 := by unfold encB; split <;> (try split) <;> (try split) <;> simp
theorem nat8 {n : Nat} (h : n < 256) : ((UInt8.ofNat n).toNat : Int) = (n : Int) := by simp; omega

end Go.Proofs.YtnnnanemefcmdaaGreatDoor
namespace Go.Proofs.YtnnnanemefcmdaaGreatDoor
open Go.RowKit

/-- What comes of reading from a place on: a text and the place behind its second mark; a place at which no escape begins; the text's end. -/
inductive DOut | done (l : List UInt8) (n : Nat) | bad (i : Nat) | cut
def DOut.pre (o : List UInt8) : DOut → DOut
  | .done l n => .done (o ++ l) n
  | .bad i => .bad i
  | .cut => .cut
theorem DOut.pre_pre (o p : List UInt8) (r : DOut) : (r.pre p).pre o = r.pre (o ++ p) := by cases r <;> simp [DOut.pre]
theorem DOut.pre_nil (r : DOut) : r.pre [] = r := by cases r <;> simp [DOut.pre]
def rdD (s : ByteArray) : Nat → Nat → DOut
  | 0, _ => .cut
  | f + 1, i => if h : i < s.size then
      (if bt s i = 34 then .done [] (i + 1)
       else if bt s i = 92 then (if (escN s i).2 = 0 then .bad i else (rdD s f (i + (escN s i).2.toNat)).pre (encB (escN s i).1.toNat))
       else (rdD s f (i + 1)).pre [s[i]]) else .cut
def dblV (s : ByteArray) (at' : Nat) : Value := match rdD s s.size (at' + 1) with
  | .done l n => gotV l at' n
  | .bad i => .agg #[.string ⟨#[]⟩, .int .i64 0, .int .i64 6, .int .i64 i]
  | .cut => .agg #[.string ⟨#[]⟩, .int .i64 0, .int .i64 3, .int .i64 s.size]
theorem rdD_end (s : ByteArray) (f i : Nat) (h : s.size ≤ i) : rdD s f i = .cut := by
  cases f with
  | zero => rfl
  | succ f => rw [rdD, dif_neg (by omega)]
theorem rdD_stop {s : ByteArray} {f i : Nat} (h : i < s.size) (h1 : bt s i = 34) : rdD s (f + 1) i = .done [] (i + 1) := by rw [rdD, dif_pos h, if_pos h1]
theorem rdD_bad {s : ByteArray} {f i : Nat} (h : i < s.size) (h1 : bt s i = 92) (h2 : (escN s i).2 = 0) : rdD s (f + 1) i = .bad i := by rw [rdD, dif_pos h, if_neg (by omega), if_pos h1, if_pos h2]
theorem rdD_esc {s : ByteArray} {f i : Nat} (h : i < s.size) (h1 : bt s i = 92) (h2 : (escN s i).2 ≠ 0) : rdD s (f + 1) i = (rdD s f (i + (escN s i).2.toNat)).pre (encB (escN s i).1.toNat) := by rw [rdD, dif_pos h, if_neg (by omega), if_pos h1, if_neg h2]
theorem rdD_one {s : ByteArray} {f i : Nat} (h : i < s.size) (h1 : bt s i ≠ 34) (h2 : bt s i ≠ 92) : rdD s (f + 1) i = (rdD s f (i + 1)).pre [s[i]] := by rw [rdD, dif_pos h, if_neg h1, if_neg h2]
theorem numR_pos {s : ByteArray} {i n : Nat} (h : ¬ numR s i n < 0) : i + n ≤ s.size := by
  unfold numR at h
  split at h
  · exact absurd (by decide) h
  · omega
theorem esc_range {s : ByteArray} {i : Nat} (h : i < s.size) : (escN s i).2 = 0 ∨ (2 ≤ (escN s i).2 ∧ (escN s i).2 ≤ 6 ∧ 0 ≤ (escN s i).1 ∧ (escN s i).1 < 65536 ∧ i + (escN s i).2.toNat ≤ s.size) := by
  have hb := bt_lt s (i + 1)
  have r2 := numR_range s (i + 2) 2
  have r4 := numR_range s (i + 2) 4
  have p2 : (16 : Int) ^ 2 = 256 := by decide
  have p4 : (16 : Int) ^ 4 = 65536 := by decide
  unfold escN
  split
  · left; rfl
  · split
    · right; refine ⟨by simp, by simp, by simp, by simp; omega, by simp; omega⟩
    · split
      · right; refine ⟨by simp, by simp, by simp, by simp, by simp; omega⟩
      · split
        · right; refine ⟨by simp, by simp, by simp, by simp, by simp; omega⟩
        · split
          · split
            · left; rfl
            · rename_i hx
              have := numR_pos hx
              right; refine ⟨by simp, by simp, by simp; omega, by simp; omega, by simp; omega⟩
          · split
            · split
              · left; rfl
              · rename_i hx
                have := numR_pos (s := s) (i := i + 2) (n := 4) (by omega)
                right; refine ⟨by simp, by simp, by simp; omega, by simp; omega, by simp; omega⟩
            · left; rfl

end Go.Proofs.YtnnnanemefcmdaaGreatDoor
namespace Go.Proofs.YtnnnanemefcmdaaGreatDoor
open Go.RowKit

/-- May a character stand in a text? -/
def signB (c : Nat) : Bool := decide (c = 10 ∨ 32 ≤ c ∧ c ≤ 126 ∨ 160 ≤ c ∧ c ≤ 55295 ∨ 57344 ≤ c ∧ c ≤ 65533 ∧ c ≠ 65279 ∨ 65536 ≤ c ∧ c ≤ 1114111)
theorem signB_true {c : Nat} (h : c = 10 ∨ 32 ≤ c ∧ c ≤ 126 ∨ 160 ≤ c ∧ c ≤ 55295 ∨ 57344 ≤ c ∧ c ≤ 65533 ∧ c ≠ 65279 ∨ 65536 ≤ c ∧ c ≤ 1114111) : signB c = true := decide_eq_true h
theorem signB_false {c : Nat} (h : ¬ (c = 10 ∨ 32 ≤ c ∧ c ≤ 126 ∨ 160 ≤ c ∧ c ≤ 55295 ∨ 57344 ≤ c ∧ c ≤ 65533 ∧ c ≠ 65279 ∨ 65536 ≤ c ∧ c ≤ 1114111)) : signB c = false := decide_eq_false h
theorem ret_bool {a b : Bool} (h : a = b) : Ending.returned (.bool a) = .returned (.bool b) := by rw [h]
theorem sign_cases (c : Nat) : c < 10 ∨ c = 10 ∨ (10 < c ∧ c < 32) ∨ (32 ≤ c ∧ c ≤ 126) ∨ (126 < c ∧ c < 160) ∨ (160 ≤ c ∧ c ≤ 55295) ∨ (55295 < c ∧ c < 57344) ∨ (57344 ≤ c ∧ c < 65279) ∨ c = 65279 ∨ (65279 < c ∧ c ≤ 65533) ∨ (65533 < c ∧ c < 65536) ∨ (65536 ≤ c ∧ c ≤ 1114111) ∨ 1114111 < c := by omega

end Go.Proofs.YtnnnanemefcmdaaGreatDoor
namespace Go.Proofs.YtnnnanemefcmdaaGreatDoor

/-- How many bytes the character at i has; a byte that is no UTF-8 is one by itself. -/
def wd (s : ByteArray) (i : Nat) : Nat := (Utf8.decode s i).2
/-- The line and the column of place p, from the character at i on, which stands in line r at column c. -/
def pl (s : ByteArray) (p : Nat) : Nat → Nat → Nat → Nat → Nat × Nat
  | 0, _, r, c => (r, c)
  | f + 1, i, r, c => if i < p then (if bt s i = 10 then pl s p f (i + wd s i) (r + 1) 1 else pl s p f (i + wd s i) r (c + 1)) else (r, c)

theorem get_bt (s : ByteArray) (i k : Nat) : (s.get! (i + k)).toNat = bt s (i + k) := rfl
theorem wd_pos (s : ByteArray) (i : Nat) : 1 ≤ wd s i := by
  simp only [wd, Utf8.decode]
  repeat' split
  all_goals simp
theorem wd_le (s : ByteArray) (i : Nat) (h : i < s.size) : i + wd s i ≤ s.size := by
  simp only [wd, Utf8.decode]
  repeat' split
  all_goals simp_all
  all_goals omega
theorem dec_10 (s : ByteArray) (i : Nat) (h : i < s.size) : (Utf8.decode s i).1 = 10 ↔ bt s i = 10 := by
  have e := bt_get s i h
  by_cases ha : (s[i]'h).toNat < 128
  · rw [decode_ascii s i h ha]; simp [e]
  · have := decode_high s i h (by omega)
    omega
theorem dec_le (s : ByteArray) (i : Nat) : (Utf8.decode s i).1 ≤ 1114111 := by
  have hb : ∀ k, (s.get! (i + k)).toNat < 256 := fun k => (s.get! (i + k)).toNat_lt
  have h0 := hb 0; have h1 := hb 1; have h2 := hb 2; have h3 := hb 3
  simp only [Utf8.decode, valid_nat]
  repeat' split
  all_goals simp_all [Utf8.runeError]
  all_goals omega
theorem chr_wd (s : ByteArray) (i : Nat) : ((chr s i).2 = 0 ∧ wd s i = 1) ∨ ((chr s i).2 ≠ 0 ∧ (chr s i).2 = wd s i) := by
  have hw := wd_pos s i
  unfold wd at *
  by_cases h : Utf8.decode s i = (65533, 1)
  · left; simp [chr, h]
  · right; simp [chr, h]; omega
theorem pl_end (s : ByteArray) (p f i r c : Nat) (h : p ≤ i) : pl s p f i r c = (r, c) := by
  cases f with
  | zero => rfl
  | succ f => rw [pl, if_neg (by omega)]
theorem pl_feed (s : ByteArray) (p f i r c : Nat) (h : i < p) (hb : bt s i = 10) : pl s p (f + 1) i r c = pl s p f (i + wd s i) (r + 1) 1 := by
  rw [pl, if_pos h, if_pos hb]
theorem pl_sign (s : ByteArray) (p f i r c : Nat) (h : i < p) (hb : bt s i ≠ 10) : pl s p (f + 1) i r c = pl s p f (i + wd s i) r (c + 1) := by
  rw [pl, if_pos h, if_neg hb]
end Go.Proofs.YtnnnanemefcmdaaGreatDoor
namespace Go.Proofs.YtnnnanemefcmdaaGreatDoor
open Go.RowKit

/-- The character at i and its length; a byte that is no UTF-8 is FFFD. -/
def dcN (s : ByteArray) (i : Nat) : Nat × Nat := if (chr s i).2 = 0 then (65533, 1) else chr s i
/-- A character, double-quoted. -/
def escW (c : Nat) : List UInt8 :=
  if c = 34 ∨ c = 92 then [92, UInt8.ofNat c] else if c = 10 then [92, 110] else if c = 9 then [92, 116]
  else if signB c = true then encB c else if c < 256 then [92, 120] ++ smallL c 2 else [92, 117] ++ smallL c 4
theorem escW_len (c : Nat) : (escW c).length ≤ 6 := by
  have := encB_len c
  have h2 := smallL_len c 2
  have h4 := smallL_len c 4
  unfold escW
  split
  · simp
  · split
    · simp
    · split
      · simp
      · split
        · omega
        · split
          · rw [List.length_append, h2]; simp
          · rw [List.length_append, h4]; simp
theorem esc_tot {o : List UInt8} {c i m : Nat} (h : o.length ≤ 6 * i + 1) (hm : 1 ≤ m) : (o ++ escW c).length ≤ 6 * (i + m) + 1 := by
  have := escW_len c
  rw [List.length_append]; omega
def wdF (s : ByteArray) : Nat → Nat → List UInt8
  | 0, _ => []
  | f + 1, i => if i < s.size then escW (dcN s i).1 ++ wdF s f (i + (dcN s i).2) else []
def wdL (s : ByteArray) : List UInt8 := 34 :: wdF s s.size 0 ++ [34]
theorem wdF_end (s : ByteArray) (f i : Nat) (h : s.size ≤ i) : wdF s f i = [] := by
  cases f with
  | zero => rfl
  | succ f => rw [wdF, if_neg (by omega)]
theorem wdF_step {s : ByteArray} {f i c m : Nat} (h : i < s.size) (hd : dcN s i = (c, m)) : wdF s (f + 1) i = escW c ++ wdF s f (i + m) := by rw [wdF, if_pos h, hd]
theorem chr_le (s : ByteArray) (i : Nat) : (chr s i).1 ≤ 1114111 := by
  unfold chr; split
  · simp
  · exact dec_le s i

end Go.Proofs.YtnnnanemefcmdaaGreatDoor
namespace Go.Proofs.YtnnnanemefcmdaaGreatDoor
open Go.RowKit

/-- The bytes from a place on. -/
def rest8 (t : ByteArray) (i : Nat) : List UInt8 := t.data.toList.drop i
theorem rest8_cons {t : ByteArray} {i : Nat} {b : UInt8} {r : List UInt8} (h : rest8 t i = b :: r) :
    ∃ hi : i < t.size, t[i] = b ∧ bt t i = b.toNat ∧ rest8 t (i + 1) = r := by
  unfold rest8 at h
  have hi : i < t.size := by
    have := congrArg List.length h
    simp at this
    have h2 : t.data.size = t.size := rfl
    omega
  have hd := List.drop_eq_getElem_cons (l := t.data.toList) (i := i) (by simpa using hi)
  rw [hd] at h
  injection h with h1 h2
  have h3 : t[i] = b := h1
  refine ⟨hi, h3, ?_, h2⟩
  rw [← bt_get t i hi, h3]
theorem rest8_nil {t : ByteArray} {i : Nat} (h : rest8 t i = []) : t.size ≤ i := by
  unfold rest8 at h
  have := congrArg List.length h
  simp at this
  have h2 : t.data.size = t.size := rfl
  omega
theorem rest8_len {t : ByteArray} {i : Nat} (h : i ≤ t.size) : i + (rest8 t i).length = t.size := by
  unfold rest8
  have h2 : t.data.size = t.size := rfl
  simp; omega
theorem dbl_cons (b : UInt8) (l : List UInt8) : dbl (b :: l) = (if b.toNat = 39 then [39, 39] else [b]) ++ dbl l := by simp [dbl]
theorem u39 {b : UInt8} (h : b.toNat = 39) : b = 39 := by
  apply UInt8.toNat_inj.mp; rw [h]; decide

/-- What is written between single marks is read as it was. -/
theorem rdS_back (l : List UInt8) : ∀ (t : ByteArray) (i f : Nat) (r : List UInt8), rest8 t i = dbl l ++ 39 :: r → r.head? ≠ some 39 → l.length < f →
    rdS t f i = some (l, i + (dbl l).length + 1) := by
  induction l with
  | nil =>
    intro t i f r h hr hf
    obtain ⟨f, rfl⟩ : ∃ g, f = g + 1 := ⟨f - 1, by omega⟩
    simp only [dbl, List.flatMap_nil, List.nil_append] at h
    obtain ⟨hi, _, hb, h2⟩ := rest8_cons h
    have hb : bt t i = 39 := hb
    rw [rdS_stop hi hb ?_]
    · simp [dbl]
    · rintro ⟨h3, h4⟩
      cases r with
      | nil => have := rest8_nil h2; omega
      | cons c r =>
        obtain ⟨_, _, hc, _⟩ := rest8_cons h2
        exact hr (by rw [u39 (hc.symm.trans h4)]; rfl)
  | cons b l ih =>
    intro t i f r h hr hf
    obtain ⟨f, rfl⟩ : ∃ g, f = g + 1 := ⟨f - 1, by omega⟩
    simp only [List.length_cons] at hf
    rw [dbl_cons] at h
    by_cases hb39 : b.toNat = 39
    · rw [if_pos hb39] at h
      simp only [List.cons_append, List.nil_append] at h
      obtain ⟨hi, _, hb, h2⟩ := rest8_cons h
      obtain ⟨hi2, _, hb2, h3⟩ := rest8_cons h2
      rw [rdS_two hi hb hi2 hb2, ih t (i + 2) f r h3 hr (by omega), dbl_cons, if_pos hb39, u39 hb39]
      simp [pre]; omega
    · rw [if_neg hb39] at h
      simp only [List.cons_append, List.nil_append] at h
      obtain ⟨hi, he, hb, h2⟩ := rest8_cons h
      rw [rdS_one hi (by rw [hb]; exact hb39), ih t (i + 1) f r h2 hr (by omega), dbl_cons, if_neg hb39, he]
      simp [pre]; omega

/-- What is cut off is not ended, or ends where it is cut off. -/
theorem rdS_cut (l : List UInt8) : ∀ (t : ByteArray) (i f : Nat) (q : List UInt8), rest8 t i ++ q = dbl l → (rest8 t i).length < f → i ≤ t.size →
    rdS t f i = none ∨ ∃ l', rdS t f i = some (l', t.size) := by
  induction l with
  | nil =>
    intro t i f q h hf hi
    have h0 : rest8 t i = [] := by
      have := congrArg List.length h
      simp [dbl] at this
      exact List.eq_nil_of_length_eq_zero (by simp [this])
    exact .inl (rdS_end t f i (rest8_nil h0))
  | cons b l ih =>
    intro t i f q h hf hi
    obtain ⟨f, rfl⟩ : ∃ g, f = g + 1 := ⟨f - 1, by omega⟩
    cases hr : rest8 t i with
    | nil => exact .inl (rdS_end t _ i (rest8_nil hr))
    | cons c r =>
      obtain ⟨hi1, he, hb, h2⟩ := rest8_cons hr
      rw [hr, List.length_cons] at hf
      rw [hr, dbl_cons] at h
      by_cases hb39 : b.toNat = 39
      · rw [if_pos hb39] at h
        simp only [List.cons_append, List.nil_append, List.cons.injEq] at h
        obtain ⟨rfl, h⟩ := h
        cases r with
        | nil =>
          have := rest8_nil h2
          refine .inr ⟨[], ?_⟩
          rw [rdS_stop hi1 hb (by omega)]
          have : i + 1 = t.size := by omega
          rw [this]
        | cons d r =>
          obtain ⟨hi2, _, hb2, h3⟩ := rest8_cons h2
          simp only [List.cons_append, List.cons.injEq] at h
          obtain ⟨rfl, h⟩ := h
          rw [rdS_two hi1 hb hi2 hb2]
          rcases ih t (i + 2) f q (by rw [h3]; exact h) (by rw [h3]; simp only [List.length_cons] at hf; omega) (by omega) with h5 | ⟨l', h5⟩
          · left; rw [h5]; rfl
          · right; rw [h5]; exact ⟨_, rfl⟩
      · rw [if_neg hb39] at h
        simp only [List.cons_append, List.nil_append, List.cons.injEq] at h
        obtain ⟨rfl, h⟩ := h
        rw [rdS_one hi1 (by rw [hb]; exact hb39)]
        rcases ih t (i + 1) f q (by rw [h2]; exact h) (by rw [h2]; omega) (by omega) with h5 | ⟨l', h5⟩
        · left; rw [h5]; rfl
        · right; rw [h5]; exact ⟨_, rfl⟩
end Go.Proofs.YtnnnanemefcmdaaGreatDoor
namespace Go.Proofs.YtnnnanemefcmdaaGreatDoor
open Go.RowKit

/-- What reading never splits: a plain byte or an escape. -/
def isTok (p : List UInt8) : Prop :=
  (∃ b : UInt8, p = [b] ∧ b.toNat ≠ 34 ∧ b.toNat ≠ 92) ∨ (∃ b : UInt8, p = [92, b] ∧ (b.toNat = 92 ∨ b.toNat = 34 ∨ b.toNat = 110 ∨ b.toNat = 116))
  ∨ (∃ h, p = 92 :: 120 :: h ∧ h.length = 2) ∨ (∃ h, p = 92 :: 117 :: h ∧ h.length = 4)
def DOut.Not (r : DOut) : Prop := r = .cut ∨ ∃ j, r = .bad j
theorem DOut.Not.pre {r : DOut} (h : r.Not) (o : List UInt8) : (r.pre o).Not := by
  rcases h with rfl | ⟨j, rfl⟩
  · exact .inl rfl
  · exact .inr ⟨j, rfl⟩
theorem rest8_add {t : ByteArray} {i : Nat} (k : Nat) : rest8 t (i + k) = (rest8 t i).drop k := by simp [rest8]
theorem esc_two {t : ByteArray} {i : Nat} (h : i + 1 < t.size) (hb : bt t (i + 1) = 92 ∨ bt t (i + 1) = 34 ∨ bt t (i + 1) = 110 ∨ bt t (i + 1) = 116) : (escN t i).2 = 2 := by
  unfold escN
  rw [if_neg (by omega)]
  by_cases h1 : bt t (i + 1) = 92 ∨ bt t (i + 1) = 34
  · rw [if_pos h1]
  · rw [if_neg h1]
    by_cases h2 : bt t (i + 1) = 110
    · rw [if_pos h2]
    · rw [if_neg h2, if_pos (by omega)]
theorem esc_x {t : ByteArray} {i : Nat} (hb : bt t (i + 1) = 120) : (escN t i).2 = 0 ∨ (escN t i).2 = 4 := by
  unfold escN
  rw [hb]
  split
  · left; rfl
  · rw [if_neg (by omega), if_neg (by omega), if_neg (by omega), if_pos rfl]
    split
    · left; rfl
    · right; rfl
theorem esc_u {t : ByteArray} {i : Nat} (hb : bt t (i + 1) = 117) : (escN t i).2 = 0 ∨ (escN t i).2 = 6 := by
  unfold escN
  rw [hb]
  split
  · left; rfl
  · rw [if_neg (by omega), if_neg (by omega), if_neg (by omega), if_neg (by omega), if_pos rfl]
    split
    · left; rfl
    · right; rfl
theorem esc_last {t : ByteArray} {i : Nat} (h : i + 1 = t.size) : (escN t i).2 = 0 := by unfold escN; rw [if_pos h]

/-- One escape that is cut off, or what stands behind it. -/
theorem drop_over {x q y z : List UInt8} {k : Nat} (h : x ++ q = y ++ z) (hk : y.length = k) (hx : k ≤ x.length) : x.drop k ++ q = z := by
  have := congrArg (List.drop k) h
  rw [List.drop_append_of_le_length hx] at this
  rw [this, ← hk]; simp

theorem rdD_cut (ts : List (List UInt8)) : (∀ p ∈ ts, isTok p) → ∀ (t : ByteArray) (i f : Nat) (q : List UInt8), rest8 t i ++ q = ts.flatten → (rest8 t i).length < f → i ≤ t.size →
    (rdD t f i).Not := by
  induction ts with
  | nil =>
    intro _ t i f q h hf hi
    have h0 : rest8 t i = [] := by
      have := congrArg List.length h
      simp at this
      exact List.eq_nil_of_length_eq_zero (by simp [this])
    exact .inl (rdD_end t f i (rest8_nil h0))
  | cons p ts ih =>
    intro hts t i f q h hf hi
    have ih := ih (fun p hp => hts p (List.mem_cons_of_mem _ hp))
    obtain ⟨f, rfl⟩ : ∃ g, f = g + 1 := ⟨f - 1, by omega⟩
    have hl := rest8_len hi
    simp only [List.flatten_cons] at h
    by_cases h0 : rest8 t i = []
    · exact .inl (rdD_end t _ i (rest8_nil h0))
    obtain ⟨c, r, hr⟩ := List.exists_cons_of_ne_nil h0
    obtain ⟨hi1, he, hb, h2⟩ := rest8_cons hr
    have over : ∀ k, p.length = k → 1 ≤ k → i + k ≤ t.size → (rdD t f (i + k)).Not := fun k hk h1 h3 => by
      have hl3 := rest8_len h3
      exact ih t (i + k) f q (by rw [rest8_add]; exact drop_over h hk (by omega)) (by omega) h3
    have esc : c.toNat = 92 → ∀ k : Nat, p.length = k → ((escN t i).2 = 0 ∨ (escN t i).2 = k) → (rdD t (f + 1) i).Not := fun hc k hk hor => by
      by_cases hz : (escN t i).2 = 0
      · rw [rdD_bad hi1 (hb.trans hc) hz]; exact .inr ⟨i, rfl⟩
      · rw [rdD_esc hi1 (hb.trans hc) hz]
        have hn := esc_range hi1
        rcases hor with h4 | h4
        · exact absurd h4 hz
        · have h5 : (escN t i).2.toNat = k := by omega
          rw [h5] at hn ⊢
          exact (over k hk (by omega) (by omega)).pre _
    rcases hts p (List.mem_cons_self ..) with ⟨b, rfl, hb1, hb2⟩ | ⟨b, rfl, hbs⟩ | ⟨u, rfl, hu⟩ | ⟨u, rfl, hu⟩
    · rw [hr] at h
      simp only [List.cons_append, List.nil_append, List.cons.injEq] at h
      obtain ⟨rfl, h⟩ := h
      rw [rdD_one hi1 (by omega) (by omega)]
      exact (over 1 rfl (by omega) (by omega)).pre _
    · have h' := h
      rw [hr] at h'
      simp only [List.cons_append, List.cons.injEq] at h'
      obtain ⟨rfl, h'⟩ := h'
      refine esc (by decide) 2 rfl ?_
      cases r with
      | nil => exact .inl (esc_last (by have := rest8_nil h2; omega))
      | cons d r =>
        obtain ⟨hi2, _, hb2, _⟩ := rest8_cons h2
        simp only [List.cons_append, List.cons.injEq] at h'
        obtain ⟨rfl, _⟩ := h'
        exact .inr (esc_two hi2 (by omega))
    · have h' := h
      rw [hr] at h'
      simp only [List.cons_append, List.cons.injEq] at h'
      obtain ⟨rfl, h'⟩ := h'
      refine esc (by decide) 4 (by simp [hu]) ?_
      cases r with
      | nil => exact .inl (esc_last (by have := rest8_nil h2; omega))
      | cons d r =>
        obtain ⟨hi2, _, hb2, _⟩ := rest8_cons h2
        simp only [List.cons_append, List.cons.injEq] at h'
        obtain ⟨rfl, _⟩ := h'
        exact esc_x hb2
    · have h' := h
      rw [hr] at h'
      simp only [List.cons_append, List.cons.injEq] at h'
      obtain ⟨rfl, h'⟩ := h'
      refine esc (by decide) 6 (by simp [hu]) ?_
      cases r with
      | nil => exact .inl (esc_last (by have := rest8_nil h2; omega))
      | cons d r =>
        obtain ⟨hi2, _, hb2, _⟩ := rest8_cons h2
        simp only [List.cons_append, List.cons.injEq] at h'
        obtain ⟨rfl, _⟩ := h'
        exact esc_u hb2

/-- A list of plain bytes, each by itself. -/
theorem toks_plain (l : List UInt8) (h : ∀ b ∈ l, b.toNat ≠ 34 ∧ b.toNat ≠ 92) : ∃ ts : List (List UInt8), l = ts.flatten ∧ ∀ p ∈ ts, isTok p := by
  refine ⟨l.map fun b => [b], ?_, ?_⟩
  · induction l with
    | nil => rfl
    | cons b l ih => simp [← ih (fun b hb => h b (List.mem_cons_of_mem _ hb))]
  · intro p hp
    obtain ⟨b, hb, rfl⟩ := List.mem_map.mp hp
    exact .inl ⟨b, rfl, h b hb⟩
theorem encB_plain (c : Nat) (h1 : c ≠ 34) (h2 : c ≠ 92) (h3 : c ≤ 1114111) : ∀ b ∈ encB c, b.toNat ≠ 34 ∧ b.toNat ≠ 92 := by
  intro b hb
  unfold encB at hb
  split at hb
  · simp only [List.mem_singleton] at hb; subst hb; simp; omega
  · split at hb
    · simp only [List.mem_cons, List.not_mem_nil, or_false] at hb
      rcases hb with rfl | rfl <;> simp <;> omega
    · split at hb
      · simp only [List.mem_cons, List.not_mem_nil, or_false] at hb
        rcases hb with rfl | rfl | rfl <;> simp <;> omega
      · simp only [List.mem_cons, List.not_mem_nil, or_false] at hb
        rcases hb with rfl | rfl | rfl | rfl <;> simp <;> omega
theorem toks_one {p : List UInt8} (h : isTok p) : ∃ ts : List (List UInt8), p = ts.flatten ∧ ∀ p ∈ ts, isTok p :=
  ⟨[p], by simp, fun q hq => by simp only [List.mem_singleton] at hq; subst hq; exact h⟩
theorem escW_toks (c : Nat) (h3 : c ≤ 1114111) : ∃ ts : List (List UInt8), escW c = ts.flatten ∧ ∀ p ∈ ts, isTok p := by
  unfold escW
  split
  · rename_i h
    refine toks_one (.inr (.inl ⟨UInt8.ofNat c, rfl, ?_⟩))
    rcases h with rfl | rfl <;> simp
  · rename_i h
    split
    · exact toks_one (.inr (.inl ⟨110, rfl, by simp⟩))
    · split
      · exact toks_one (.inr (.inl ⟨116, rfl, by simp⟩))
      · split
        · exact toks_plain _ (encB_plain c (by omega) (by omega) h3)
        · split
          · exact toks_one (.inr (.inr (.inl ⟨smallL c 2, rfl, smallL_len c 2⟩)))
          · exact toks_one (.inr (.inr (.inr ⟨smallL c 4, rfl, smallL_len c 4⟩)))
theorem dcN_le (s : ByteArray) (i : Nat) : (dcN s i).1 ≤ 1114111 := by
  unfold dcN
  split
  · simp
  · exact chr_le s i
theorem wdF_toks (s : ByteArray) (f : Nat) : ∀ i, ∃ ts : List (List UInt8), wdF s f i = ts.flatten ∧ ∀ p ∈ ts, isTok p := by
  induction f with
  | zero => exact fun i => ⟨[], rfl, by simp⟩
  | succ f ih =>
    intro i
    rw [wdF]
    split
    · obtain ⟨ts, h1, h2⟩ := escW_toks (dcN s i).1 (dcN_le s i)
      obtain ⟨us, h3, h4⟩ := ih (i + (dcN s i).2)
      refine ⟨ts ++ us, by rw [h1, h3]; simp, ?_⟩
      intro p hp
      rcases List.mem_append.mp hp with h | h
      · exact h2 p h
      · exact h4 p h
    · exact ⟨[], rfl, by simp⟩
end Go.Proofs.YtnnnanemefcmdaaGreatDoor
