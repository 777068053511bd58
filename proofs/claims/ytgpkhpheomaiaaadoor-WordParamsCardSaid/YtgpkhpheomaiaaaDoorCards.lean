/-
  DERIVED. GIVEN WITH THE SEED: THE CARDS: each row of YtgpkhpheomaiaaaDoorRows.lean that lists a variable, with what it lists TIED to the program's text (the seventh form; the later family's looks); each row that meets fmt, with fmt's text TOLD by the authors' own Lean function (tested against real Go, not proved from fmt's source: count such statements apart). THE CARD IS WHAT COUNTS. Prove the row's statement (the work); the ties are given (YtgpkhpheomaiaaaDoorTie.lean); close each card by the builder's one call (the guide's Derived/Test/ToyasCard.lean, 'card_holds'). Laid BY PROGRAM, IN A SANDBOX (cutbox-door.mjs). By AI agents, Wed Nov 11 2026. No macro, syntax, notation, axiom, sorry.
-/
import Derived.Test.YtgpkhpheomaiaaaDoorRows
import GoSem.ClaimSeven
namespace Go.Proofs.YtgpkhpheomaiaaaDoor
namespace Rows

/-- THE TIED CARD OF 'shyardlaw05.WordQuotes'. -/
def wordQuotesCard : Claim7 := { stood := { row := wordQuotesRow, standIns := [], harness := (true, "23eb7d69be85287e8f5e5ce1a9afc9e0f99b28dcb5d6d4f38216d7f003792b09"), looks := false }, kinds := [], alts := [], laidByText := true, laidKinds := [.data, .pinned], laidTests := true, laidLooks := .later }
def WordQuotesCardSaid : Prop := Claim7.holds Tryd.pinned (.plain (OpenSpec.ofChange wordQuotesSpec)) wordQuotesCard

/-- THE TIED CARD OF 'shyardlaw05.WordParams'. -/
def wordParamsCard : Claim7 := { stood := { row := wordParamsRow, standIns := [], harness := (true, "23eb7d69be85287e8f5e5ce1a9afc9e0f99b28dcb5d6d4f38216d7f003792b09"), looks := false }, kinds := [], alts := [], laidByText := true, laidKinds := [.data, .pinned], laidTests := true, laidLooks := .later }
def WordParamsCardSaid : Prop := Claim7.holds Tryd.pinned (.plain (OpenSpec.ofChange wordParamsSpec)) wordParamsCard

/-- THE SECOND FORM's CARD OF 'shyardlaw05.WordQuotes'. -/
def wordQuotesUptoCard : Claim7 := { stood := { row := wordQuotesUptoRow, standIns := [], harness := (true, "23eb7d69be85287e8f5e5ce1a9afc9e0f99b28dcb5d6d4f38216d7f003792b09"), looks := false }, kinds := [], alts := [], laidByText := true, laidKinds := [.data, .pinned], laidTests := true, laidLooks := .later }
def WordQuotesUptoCardSaid : Prop := Claim7.holds Tryd.pinned (.plain (OpenSpec.upto wordQuotesSpec)) wordQuotesUptoCard

/-- THE SECOND FORM's CARD OF 'shyardlaw05.WordParams'. -/
def wordParamsUptoCard : Claim7 := { stood := { row := wordParamsUptoRow, standIns := [], harness := (true, "23eb7d69be85287e8f5e5ce1a9afc9e0f99b28dcb5d6d4f38216d7f003792b09"), looks := false }, kinds := [], alts := [], laidByText := true, laidKinds := [.data, .pinned], laidTests := true, laidLooks := .later }
def WordParamsUptoCardSaid : Prop := Claim7.holds Tryd.pinned (.plain (OpenSpec.upto wordParamsSpec)) wordParamsUptoCard
end Rows
end Go.Proofs.YtgpkhpheomaiaaaDoor
