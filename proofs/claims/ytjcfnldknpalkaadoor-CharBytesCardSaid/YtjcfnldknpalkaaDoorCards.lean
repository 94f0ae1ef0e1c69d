/-
  DERIVED. GIVEN WITH THE SEED: THE CARDS: each row of YtjcfnldknpalkaaDoorRows.lean that lists a variable, with what it lists TIED to the program's text (the seventh form; the later family's looks); each row that meets fmt, with fmt's text TOLD by the authors' own Lean function (tested against real Go, not proved from fmt's source: count such statements apart). THE CARD IS WHAT COUNTS. Prove the row's statement (the work); the ties are given (YtjcfnldknpalkaaDoorTie.lean); close each card by the builder's one call (the guide's Derived/Test/ToyasCard.lean, 'card_holds'). Laid BY PROGRAM, IN A SANDBOX (cutbox-door.mjs). By AI agents, Wed Nov 11 2026. No macro, syntax, notation, axiom, sorry.
-/
import Derived.Test.YtjcfnldknpalkaaDoorRows
import GoSem.ClaimSeven
namespace Go.Proofs.YtjcfnldknpalkaaDoor
namespace Rows

/-- THE TIED CARD OF 'stanhopelaw03.CharBytes'. -/
def charBytesCard : Claim7 := { stood := { row := charBytesRow, standIns := [], harness := (true, "77dfd1523659b793157b95596e4ebc8ac7efc1b73cf236bd6f0d3ade578ae100"), looks := false }, kinds := [], alts := [], laidByText := true, laidKinds := [.data, .pinned], laidTests := true, laidLooks := .later }
def CharBytesCardSaid : Prop := Claim7.holds Tryd.pinned (.plain (OpenSpec.ofChange charBytesSpec)) charBytesCard

/-- THE TIED CARD OF 'stanhopelaw03.CharTexts'. -/
def charTextsCard : Claim7 := { stood := { row := charTextsRow, standIns := [], harness := (true, "77dfd1523659b793157b95596e4ebc8ac7efc1b73cf236bd6f0d3ade578ae100"), looks := false }, kinds := [], alts := [], laidByText := true, laidKinds := [.data, .pinned], laidTests := true, laidLooks := .later }
def CharTextsCardSaid : Prop := Claim7.holds Tryd.pinned (.plain (OpenSpec.ofChange charTextsSpec)) charTextsCard

/-- THE TIED CARD OF 'stanhopelaw03.CharPlain'. -/
def charPlainCard : Claim7 := { stood := { row := charPlainRow, standIns := [], harness := (true, "77dfd1523659b793157b95596e4ebc8ac7efc1b73cf236bd6f0d3ade578ae100"), looks := false }, kinds := [], alts := [], laidByText := true, laidKinds := [.data, .pinned], laidTests := true, laidLooks := .later }
def CharPlainCardSaid : Prop := Claim7.holds Tryd.pinned (.plain (OpenSpec.ofChange charPlainSpec)) charPlainCard

/-- THE TIED CARD OF 'stanhopelaw03.CharEnds'. -/
def charEndsCard : Claim7 := { stood := { row := charEndsRow, standIns := [], harness := (true, "77dfd1523659b793157b95596e4ebc8ac7efc1b73cf236bd6f0d3ade578ae100"), looks := false }, kinds := [], alts := [], laidByText := true, laidKinds := [.data, .pinned], laidTests := true, laidLooks := .later }
def CharEndsCardSaid : Prop := Claim7.holds Tryd.pinned (.plain (OpenSpec.ofChange charEndsSpec)) charEndsCard

/-- THE SECOND FORM's CARD OF 'stanhopelaw03.CharBytes'. -/
def charBytesUptoCard : Claim7 := { stood := { row := charBytesUptoRow, standIns := [], harness := (true, "77dfd1523659b793157b95596e4ebc8ac7efc1b73cf236bd6f0d3ade578ae100"), looks := false }, kinds := [], alts := [], laidByText := true, laidKinds := [.data, .pinned], laidTests := true, laidLooks := .later }
def CharBytesUptoCardSaid : Prop := Claim7.holds Tryd.pinned (.plain (OpenSpec.upto charBytesSpec)) charBytesUptoCard

/-- THE SECOND FORM's CARD OF 'stanhopelaw03.CharTexts'. -/
def charTextsUptoCard : Claim7 := { stood := { row := charTextsUptoRow, standIns := [], harness := (true, "77dfd1523659b793157b95596e4ebc8ac7efc1b73cf236bd6f0d3ade578ae100"), looks := false }, kinds := [], alts := [], laidByText := true, laidKinds := [.data, .pinned], laidTests := true, laidLooks := .later }
def CharTextsUptoCardSaid : Prop := Claim7.holds Tryd.pinned (.plain (OpenSpec.upto charTextsSpec)) charTextsUptoCard

/-- THE SECOND FORM's CARD OF 'stanhopelaw03.CharPlain'. -/
def charPlainUptoCard : Claim7 := { stood := { row := charPlainUptoRow, standIns := [], harness := (true, "77dfd1523659b793157b95596e4ebc8ac7efc1b73cf236bd6f0d3ade578ae100"), looks := false }, kinds := [], alts := [], laidByText := true, laidKinds := [.data, .pinned], laidTests := true, laidLooks := .later }
def CharPlainUptoCardSaid : Prop := Claim7.holds Tryd.pinned (.plain (OpenSpec.upto charPlainSpec)) charPlainUptoCard

/-- THE SECOND FORM's CARD OF 'stanhopelaw03.CharEnds'. -/
def charEndsUptoCard : Claim7 := { stood := { row := charEndsUptoRow, standIns := [], harness := (true, "77dfd1523659b793157b95596e4ebc8ac7efc1b73cf236bd6f0d3ade578ae100"), looks := false }, kinds := [], alts := [], laidByText := true, laidKinds := [.data, .pinned], laidTests := true, laidLooks := .later }
def CharEndsUptoCardSaid : Prop := Claim7.holds Tryd.pinned (.plain (OpenSpec.upto charEndsSpec)) charEndsUptoCard
end Rows
end Go.Proofs.YtjcfnldknpalkaaDoor
