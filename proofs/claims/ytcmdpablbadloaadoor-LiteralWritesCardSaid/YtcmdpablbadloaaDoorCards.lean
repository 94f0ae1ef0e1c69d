/-
  DERIVED. GIVEN WITH THE SEED: THE CARDS: each row of YtcmdpablbadloaaDoorRows.lean that lists a variable, with what it lists TIED to the program's text (the seventh form; the later family's looks); each row that meets fmt, with fmt's text TOLD by the authors' own Lean function (tested against real Go, not proved from fmt's source: count such statements apart). THE CARD IS WHAT COUNTS. Prove the row's statement (the work); the ties are given (YtcmdpablbadloaaDoorTie.lean); close each card by the builder's one call (the guide's Derived/Test/ToyasCard.lean, 'card_holds'). Laid BY PROGRAM, IN A SANDBOX (cutbox-door.mjs). By AI agents, Wed Nov 11 2026. No macro, syntax, notation, axiom, sorry.
-/
import Derived.Test.YtcmdpablbadloaaDoorRows
import GoSem.ClaimSeven
namespace Go.Proofs.YtcmdpablbadloaaDoor
namespace Rows

/-- THE TIED CARD OF 'stanhopelaw06.LiteralHeads'. -/
def literalHeadsCard : Claim7 := { stood := { row := literalHeadsRow, standIns := [], harness := (true, "c9944290b1b581fec6891fe8822f49683744ccd980751b4989ce120e7109c464"), looks := false }, kinds := [], alts := [], laidByText := true, laidKinds := [.data, .pinned], laidTests := true, laidLooks := .later }
def LiteralHeadsCardSaid : Prop := Claim7.holds Tryd.pinned (.plain (OpenSpec.ofChange literalHeadsSpec)) literalHeadsCard

/-- THE TIED CARD OF 'stanhopelaw06.LiteralWrites'. -/
def literalWritesCard : Claim7 := { stood := { row := literalWritesRow, standIns := [], harness := (true, "c9944290b1b581fec6891fe8822f49683744ccd980751b4989ce120e7109c464"), looks := false }, kinds := [], alts := [], laidByText := true, laidKinds := [.data, .pinned], laidTests := true, laidLooks := .later }
def LiteralWritesCardSaid : Prop := Claim7.holds Tryd.pinned (.plain (OpenSpec.ofChange literalWritesSpec)) literalWritesCard

/-- THE SECOND FORM's CARD OF 'stanhopelaw06.LiteralHeads'. -/
def literalHeadsUptoCard : Claim7 := { stood := { row := literalHeadsUptoRow, standIns := [], harness := (true, "c9944290b1b581fec6891fe8822f49683744ccd980751b4989ce120e7109c464"), looks := false }, kinds := [], alts := [], laidByText := true, laidKinds := [.data, .pinned], laidTests := true, laidLooks := .later }
def LiteralHeadsUptoCardSaid : Prop := Claim7.holds Tryd.pinned (.plain (OpenSpec.upto literalHeadsSpec)) literalHeadsUptoCard

/-- THE SECOND FORM's CARD OF 'stanhopelaw06.LiteralWrites'. -/
def literalWritesUptoCard : Claim7 := { stood := { row := literalWritesUptoRow, standIns := [], harness := (true, "c9944290b1b581fec6891fe8822f49683744ccd980751b4989ce120e7109c464"), looks := false }, kinds := [], alts := [], laidByText := true, laidKinds := [.data, .pinned], laidTests := true, laidLooks := .later }
def LiteralWritesUptoCardSaid : Prop := Claim7.holds Tryd.pinned (.plain (OpenSpec.upto literalWritesSpec)) literalWritesUptoCard
end Rows
end Go.Proofs.YtcmdpablbadloaaDoor
