/-
  DERIVED. GIVEN WITH THE SEED: THE CARDS: each row of YtnnnanemefcmdaaGreatDoorRows.lean that lists a variable, with what it lists TIED to the program's text (the seventh form; the later family's looks); each row that meets fmt, with fmt's text TOLD by the authors' own Lean function (tested against real Go, not proved from fmt's source: count such statements apart). THE CARD IS WHAT COUNTS. Prove the row's statement (the work); the ties are given (YtnnnanemefcmdaaGreatDoorTie.lean); close each card by the builder's one call (the guide's Derived/Test/ToyasCard.lean, 'card_holds'). Laid BY PROGRAM, IN A SANDBOX (cutbox-door.mjs). By AI agents, Wed Nov 11 2026. No macro, syntax, notation, axiom, sorry.
-/
import Derived.Test.YtnnnanemefcmdaaGreatDoorRows
import GoSem.ClaimSeven
namespace Go.Proofs.YtnnnanemefcmdaaGreatDoor
namespace Rows

/-- THE TIED CARD OF 'stanhopelaw07.TokenRows'. -/
def tokenRowsCard : Claim7 := { stood := { row := tokenRowsRow, standIns := [], harness := (true, "8298739106645d18d7308ad05e7eaa28d8e6be0653794ad85385906b93782517"), looks := true }, kinds := [], alts := [], laidByText := true, laidKinds := [.data, .data, .data, .data, .sentinel, .sentinel, .pinned], laidTests := true, laidLooks := .later }
def TokenRowsCardSaid : Prop := Claim7.holds Tryz.pinned (.plain (OpenSpec.ofChange tokenRowsSpec)) tokenRowsCard

/-- THE TIED CARD OF 'stanhopelaw07.TokenNests'. -/
def tokenNestsCard : Claim7 := { stood := { row := tokenNestsRow, standIns := [], harness := (true, "8298739106645d18d7308ad05e7eaa28d8e6be0653794ad85385906b93782517"), looks := true }, kinds := [], alts := [], laidByText := true, laidKinds := [.data, .data, .data, .data, .sentinel, .sentinel, .pinned], laidTests := true, laidLooks := .later }
def TokenNestsCardSaid : Prop := Claim7.holds Tryz.pinned (.plain (OpenSpec.ofChange tokenNestsSpec)) tokenNestsCard

/-- THE TIED CARD OF 'stanhopelaw07.TokenMoves'. -/
def tokenMovesCard : Claim7 := { stood := { row := tokenMovesRow, standIns := [], harness := (true, "8298739106645d18d7308ad05e7eaa28d8e6be0653794ad85385906b93782517"), looks := true }, kinds := [], alts := [], laidByText := true, laidKinds := [.data, .data, .data, .data, .sentinel, .sentinel, .pinned], laidTests := true, laidLooks := .later }
def TokenMovesCardSaid : Prop := Claim7.holds Tryz.pinned (.plain (OpenSpec.ofChange tokenMovesSpec)) tokenMovesCard

/-- THE SECOND FORM's CARD OF 'stanhopelaw07.TokenRows'. -/
def tokenRowsUptoCard : Claim7 := { stood := { row := tokenRowsUptoRow, standIns := [], harness := (true, "8298739106645d18d7308ad05e7eaa28d8e6be0653794ad85385906b93782517"), looks := true }, kinds := [], alts := [], laidByText := true, laidKinds := [.data, .data, .data, .data, .sentinel, .sentinel, .pinned], laidTests := true, laidLooks := .later }
def TokenRowsUptoCardSaid : Prop := Claim7.holds Tryz.pinned (.plain (OpenSpec.upto tokenRowsSpec)) tokenRowsUptoCard

/-- THE SECOND FORM's CARD OF 'stanhopelaw07.TokenNests'. -/
def tokenNestsUptoCard : Claim7 := { stood := { row := tokenNestsUptoRow, standIns := [], harness := (true, "8298739106645d18d7308ad05e7eaa28d8e6be0653794ad85385906b93782517"), looks := true }, kinds := [], alts := [], laidByText := true, laidKinds := [.data, .data, .data, .data, .sentinel, .sentinel, .pinned], laidTests := true, laidLooks := .later }
def TokenNestsUptoCardSaid : Prop := Claim7.holds Tryz.pinned (.plain (OpenSpec.upto tokenNestsSpec)) tokenNestsUptoCard

/-- THE SECOND FORM's CARD OF 'stanhopelaw07.TokenMoves'. -/
def tokenMovesUptoCard : Claim7 := { stood := { row := tokenMovesUptoRow, standIns := [], harness := (true, "8298739106645d18d7308ad05e7eaa28d8e6be0653794ad85385906b93782517"), looks := true }, kinds := [], alts := [], laidByText := true, laidKinds := [.data, .data, .data, .data, .sentinel, .sentinel, .pinned], laidTests := true, laidLooks := .later }
def TokenMovesUptoCardSaid : Prop := Claim7.holds Tryz.pinned (.plain (OpenSpec.upto tokenMovesSpec)) tokenMovesUptoCard
end Rows
end Go.Proofs.YtnnnanemefcmdaaGreatDoor
