/-
  NARROWER THAN 'FOR EVERY INPUT', by the rows' own cells (each row's printed sentence says how): CharBytes: laid · CharTexts: laid · CharPlain: laid · CharEnds: laid.
  DERIVED. THE GIVEN ROWS OF THIS SEAT. 4 by the template 'for every input the law returns true; each argument reads behind the call as it read before'; 0 by the template 'total and deterministic' (their statements: YtjcfnldknpalkaaDoorTotals.lean).
  GIVEN WITH THE SEED: the statements are not yours to turn. If you find one false, say at which input.
  Laid BY PROGRAM, IN A SANDBOX (cutbox-rows.mjs): the forced cells as the released guide's own fill.sh prints them over the translation 408364b70121b026… (all of the seat's roots in one cut). By AI agents, Wed Nov 11 2026. No macro, syntax, notation, axiom, sorry.
-/
import Derived.Test.YtjcfnldknpalkaaDoorChecked
import GoSem.PinnedTables
import GoSem.Claim
import GoSem.ClaimJoined
import GoSem.ClaimMapViews
import Derived.JoinedTies
import Derived.KernelRfl
namespace Go.Proofs.YtjcfnldknpalkaaDoor
/- THE CELL 'sum', in the pinned program and in every row, IS THE sha256 OF THE DUMP (.gsa) THAT YtjcfnldknpalkaaDoorProg.lean LOADS. Nothing in Lean hashes anything: it is a label: what it is worth is what the hold of that sum in a sandbox is worth. -/
noncomputable def Tryd.pinned : Pinned := { name := "ytjcfnldknpalkaadoor", sum := "408364b70121b026c209d08bb9d8d83e8ad662149337f2d5d899adcc29dd7fb6", checked := Tryd.checked }
namespace Rows
def none {H : Type} : Left H := { results := [], args := [] }

/- WHAT THE LISTED PACKAGE-LEVEL VARIABLES READ AS WHEN THE CALL BEGINS. Each datum BY PROGRAM (the guide's laid-datum.mjs) off the statement by which the dump's own 'gosem.cut.vars' lays the variable. In a bare row this is a premise. The card (YtjcfnldknpalkaaDoorCards.lean) ties it to the program's text. -/
def laid_unicode_utf8_acceptRanges {H : Type} : DataW H := .agg [.agg [.lit (.int .u8 128), .lit (.int .u8 191)], .agg [.lit (.int .u8 160), .lit (.int .u8 191)], .agg [.lit (.int .u8 128), .lit (.int .u8 159)], .agg [.lit (.int .u8 144), .lit (.int .u8 191)], .agg [.lit (.int .u8 128), .lit (.int .u8 143)], .agg [.lit (.int .u8 0), .lit (.int .u8 0)], .agg [.lit (.int .u8 0), .lit (.int .u8 0)], .agg [.lit (.int .u8 0), .lit (.int .u8 0)], .agg [.lit (.int .u8 0), .lit (.int .u8 0)], .agg [.lit (.int .u8 0), .lit (.int .u8 0)], .agg [.lit (.int .u8 0), .lit (.int .u8 0)], .agg [.lit (.int .u8 0), .lit (.int .u8 0)], .agg [.lit (.int .u8 0), .lit (.int .u8 0)], .agg [.lit (.int .u8 0), .lit (.int .u8 0)], .agg [.lit (.int .u8 0), .lit (.int .u8 0)], .agg [.lit (.int .u8 0), .lit (.int .u8 0)]]
/-- One of Go's own tables, pinned by name: the form's constant. -/
def laid_unicode_utf8_first : DataW Unit := Go.Pinned.utf8First

/-- 'stanhopelaw03.CharBytes': WHATEVER THE INPUT: true; the input reads as it did. -/
def charBytesSpec : ChangeSpec := { name := "charBytes", fn := fun _ => fun
  | [] => { results := [.lit (.bool true)], args := [] }
  | _ => none }
def charBytesRow : OpenClaim := { program := "ytjcfnldknpalkaadoor", sum := "408364b70121b026c209d08bb9d8d83e8ad662149337f2d5d899adcc29dd7fb6", func := "stanhope/stanhopelaw03.CharBytes", spec := "charBytes", inPlace := ["internal/bytealg.IndexByteString", "internal/bytealg.IndexString"], named := ["unicode/utf8.first", "unicode/utf8.acceptRanges", "internal/bytealg.MaxLen"], apart := false, laid := [("unicode/utf8.acceptRanges", laid_unicode_utf8_acceptRanges), ("unicode/utf8.first", laid_unicode_utf8_first)] }
def CharBytesSaid : Prop := charBytesRow.holds Tryd.pinned (OpenSpec.ofChange charBytesSpec)

/-- ITS FALSE NEIGHBOUR: 'it returns false'. Refute it at one input. -/
def charBytesWrong : ChangeSpec := { name := "charBytes", fn := fun _ => fun
  | [] => { results := [.lit (.bool false)], args := [] }
  | _ => none }
def CharBytesWrongFalsely : Prop := charBytesRow.holds Tryd.pinned (OpenSpec.ofChange charBytesWrong)

/-- 'stanhopelaw03.CharTexts': WHATEVER THE INPUT: true; the input reads as it did. -/
def charTextsSpec : ChangeSpec := { name := "charTexts", fn := fun _ => fun
  | [d] => { results := [.lit (.bool true)], args := [d] }
  | _ => none }
def charTextsRow : OpenClaim := { program := "ytjcfnldknpalkaadoor", sum := "408364b70121b026c209d08bb9d8d83e8ad662149337f2d5d899adcc29dd7fb6", func := "stanhope/stanhopelaw03.CharTexts", spec := "charTexts", inPlace := ["internal/bytealg.IndexByteString", "internal/bytealg.IndexString"], unfollowed := true, recurses := true, named := ["unicode/utf8.first", "unicode/utf8.acceptRanges", "internal/bytealg.MaxLen"], apart := false, laid := [("unicode/utf8.acceptRanges", laid_unicode_utf8_acceptRanges), ("unicode/utf8.first", laid_unicode_utf8_first)] }
def CharTextsSaid : Prop := charTextsRow.holds Tryd.pinned (OpenSpec.ofChange charTextsSpec)

/-- ITS FALSE NEIGHBOUR: 'it returns false'. Refute it at one input. -/
def charTextsWrong : ChangeSpec := { name := "charTexts", fn := fun _ => fun
  | [d] => { results := [.lit (.bool false)], args := [d] }
  | _ => none }
def CharTextsWrongFalsely : Prop := charTextsRow.holds Tryd.pinned (OpenSpec.ofChange charTextsWrong)

/-- 'stanhopelaw03.CharPlain': WHATEVER THE INPUT: true; the input reads as it did. -/
def charPlainSpec : ChangeSpec := { name := "charPlain", fn := fun _ => fun
  | [d1, d2, d3] => { results := [.lit (.bool true)], args := [d1, d2, d3] }
  | _ => none }
def charPlainRow : OpenClaim := { program := "ytjcfnldknpalkaadoor", sum := "408364b70121b026c209d08bb9d8d83e8ad662149337f2d5d899adcc29dd7fb6", func := "stanhope/stanhopelaw03.CharPlain", spec := "charPlain", inPlace := ["internal/bytealg.IndexByteString", "internal/bytealg.IndexString"], named := ["unicode/utf8.first", "unicode/utf8.acceptRanges", "internal/bytealg.MaxLen"], apart := false, laid := [("unicode/utf8.acceptRanges", laid_unicode_utf8_acceptRanges), ("unicode/utf8.first", laid_unicode_utf8_first)] }
def CharPlainSaid : Prop := charPlainRow.holds Tryd.pinned (OpenSpec.ofChange charPlainSpec)

/-- ITS FALSE NEIGHBOUR: 'it returns false'. Refute it at one input. -/
def charPlainWrong : ChangeSpec := { name := "charPlain", fn := fun _ => fun
  | [d1, d2, d3] => { results := [.lit (.bool false)], args := [d1, d2, d3] }
  | _ => none }
def CharPlainWrongFalsely : Prop := charPlainRow.holds Tryd.pinned (OpenSpec.ofChange charPlainWrong)

/-- 'stanhopelaw03.CharEnds': WHATEVER THE INPUT: true; the input reads as it did. -/
def charEndsSpec : ChangeSpec := { name := "charEnds", fn := fun _ => fun
  | [d1, d2, d3] => { results := [.lit (.bool true)], args := [d1, d2, d3] }
  | _ => none }
def charEndsRow : OpenClaim := { program := "ytjcfnldknpalkaadoor", sum := "408364b70121b026c209d08bb9d8d83e8ad662149337f2d5d899adcc29dd7fb6", func := "stanhope/stanhopelaw03.CharEnds", spec := "charEnds", inPlace := ["internal/bytealg.IndexByteString", "internal/bytealg.IndexString"], named := ["unicode/utf8.first", "unicode/utf8.acceptRanges", "internal/bytealg.MaxLen"], apart := false, laid := [("unicode/utf8.acceptRanges", laid_unicode_utf8_acceptRanges), ("unicode/utf8.first", laid_unicode_utf8_first)] }
def CharEndsSaid : Prop := charEndsRow.holds Tryd.pinned (OpenSpec.ofChange charEndsSpec)

/-- ITS FALSE NEIGHBOUR: 'it returns false'. Refute it at one input. -/
def charEndsWrong : ChangeSpec := { name := "charEnds", fn := fun _ => fun
  | [d1, d2, d3] => { results := [.lit (.bool false)], args := [d1, d2, d3] }
  | _ => none }
def CharEndsWrongFalsely : Prop := charEndsRow.holds Tryd.pinned (OpenSpec.ofChange charEndsWrong)

/- THE SECOND FORM. 'bulk': how many values and letters a reading holds, each counted each time it is reached (what is shared counts as often as it is met; a slice's spare places count too). A statement '..UptoSaid' is the law's where the arguments, and the package variables that the reading takes, are together of bulk at most 1048576: NARROWER than '..Said'. Prove '..Said' where nothing that the law and all that it calls make is longer than what came in: it says more and counts as full. Else prove '..UptoSaid'. A law counts once. -/
mutual
def uptoBulk {H : Type} : DataW H → Nat
  | .lit (.string bytes) => bytes.length + 1
  | .lit _ => 1
  | .nil => 1
  | .ptr d => uptoBulk d + 1
  | .slice elems spare => uptoBulkAll elems + uptoBulkAll spare + 1
  | .agg parts => uptoBulkAll parts + 1
  | .iface _ d => uptoBulk d + 1
  | .map entries => uptoBulkEntries entries + 1
  | .held _ => 1
def uptoBulkAll {H : Type} : List (DataW H) → Nat
  | [] => 0
  | d :: r => uptoBulk d + uptoBulkAll r
def uptoBulkEntries {H : Type} : List (Lit × DataW H) → Nat
  | [] => 0
  | x :: r => uptoBulkEntry x + uptoBulkEntries r
def uptoBulkEntry {H : Type} : Lit × DataW H → Nat
  | (.string bytes, d) => bytes.length + uptoBulk d + 1
  | (_, d) => uptoBulk d + 1
 end
def uptoSmall : (H : Type) → List (DataW H) → Bool := fun _ ds => decide (uptoBulkAll ds ≤ 1048576)
def OpenSpec.upto (s : _root_.Go.ChangeSpec) : _root_.Go.OpenSpec := { _root_.Go.OpenSpec.ofChange s with cond := some uptoSmall }

/-- 'stanhopelaw03.CharBytes', WHERE WHAT IT READS IS OF BULK AT MOST 1048576: true; the input reads as it did. -/
def charBytesUptoRow : OpenClaim := { program := "ytjcfnldknpalkaadoor", sum := "408364b70121b026c209d08bb9d8d83e8ad662149337f2d5d899adcc29dd7fb6", func := "stanhope/stanhopelaw03.CharBytes", spec := "charBytes", inPlace := ["internal/bytealg.IndexByteString", "internal/bytealg.IndexString"], named := ["unicode/utf8.first", "unicode/utf8.acceptRanges", "internal/bytealg.MaxLen"], apart := false, laid := [("unicode/utf8.acceptRanges", laid_unicode_utf8_acceptRanges), ("unicode/utf8.first", laid_unicode_utf8_first)], narrowed := true }
def CharBytesUptoSaid : Prop := charBytesUptoRow.holds Tryd.pinned (OpenSpec.upto charBytesSpec)

/-- 'stanhopelaw03.CharTexts', WHERE WHAT IT READS IS OF BULK AT MOST 1048576: true; the input reads as it did. -/
def charTextsUptoRow : OpenClaim := { program := "ytjcfnldknpalkaadoor", sum := "408364b70121b026c209d08bb9d8d83e8ad662149337f2d5d899adcc29dd7fb6", func := "stanhope/stanhopelaw03.CharTexts", spec := "charTexts", inPlace := ["internal/bytealg.IndexByteString", "internal/bytealg.IndexString"], unfollowed := true, recurses := true, named := ["unicode/utf8.first", "unicode/utf8.acceptRanges", "internal/bytealg.MaxLen"], apart := false, laid := [("unicode/utf8.acceptRanges", laid_unicode_utf8_acceptRanges), ("unicode/utf8.first", laid_unicode_utf8_first)], narrowed := true }
def CharTextsUptoSaid : Prop := charTextsUptoRow.holds Tryd.pinned (OpenSpec.upto charTextsSpec)

/-- 'stanhopelaw03.CharPlain', WHERE WHAT IT READS IS OF BULK AT MOST 1048576: true; the input reads as it did. -/
def charPlainUptoRow : OpenClaim := { program := "ytjcfnldknpalkaadoor", sum := "408364b70121b026c209d08bb9d8d83e8ad662149337f2d5d899adcc29dd7fb6", func := "stanhope/stanhopelaw03.CharPlain", spec := "charPlain", inPlace := ["internal/bytealg.IndexByteString", "internal/bytealg.IndexString"], named := ["unicode/utf8.first", "unicode/utf8.acceptRanges", "internal/bytealg.MaxLen"], apart := false, laid := [("unicode/utf8.acceptRanges", laid_unicode_utf8_acceptRanges), ("unicode/utf8.first", laid_unicode_utf8_first)], narrowed := true }
def CharPlainUptoSaid : Prop := charPlainUptoRow.holds Tryd.pinned (OpenSpec.upto charPlainSpec)

/-- 'stanhopelaw03.CharEnds', WHERE WHAT IT READS IS OF BULK AT MOST 1048576: true; the input reads as it did. -/
def charEndsUptoRow : OpenClaim := { program := "ytjcfnldknpalkaadoor", sum := "408364b70121b026c209d08bb9d8d83e8ad662149337f2d5d899adcc29dd7fb6", func := "stanhope/stanhopelaw03.CharEnds", spec := "charEnds", inPlace := ["internal/bytealg.IndexByteString", "internal/bytealg.IndexString"], named := ["unicode/utf8.first", "unicode/utf8.acceptRanges", "internal/bytealg.MaxLen"], apart := false, laid := [("unicode/utf8.acceptRanges", laid_unicode_utf8_acceptRanges), ("unicode/utf8.first", laid_unicode_utf8_first)], narrowed := true }
def CharEndsUptoSaid : Prop := charEndsUptoRow.holds Tryd.pinned (OpenSpec.upto charEndsSpec)

end Rows
end Go.Proofs.YtjcfnldknpalkaaDoor
