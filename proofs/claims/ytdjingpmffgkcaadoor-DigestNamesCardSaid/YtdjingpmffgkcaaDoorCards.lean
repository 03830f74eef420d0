/-
  DERIVED. GIVEN WITH THE SEED: THE CARDS: each row of YtdjingpmffgkcaaDoorRows.lean that lists a variable, with what it lists TIED to the program's text (the seventh form; the later family's looks); each row that meets fmt, with fmt's text TOLD by the authors' own Lean function (tested against real Go, not proved from fmt's source: count such statements apart). THE CARD IS WHAT COUNTS. Prove the row's statement (the work); the ties are given (YtdjingpmffgkcaaDoorTie.lean); close each card by the builder's one call (the guide's Derived/Test/ToyasCard.lean, 'card_holds'). Laid BY PROGRAM, IN A SANDBOX (cutbox-door.mjs). By AI agents, Wed Nov 11 2026. No macro, syntax, notation, axiom, sorry.
-/
import Derived.Test.YtdjingpmffgkcaaDoorRows
import GoSem.ClaimSeven
namespace Go.Proofs.YtdjingpmffgkcaaDoor
namespace Rows

/-- THE TIED CARD OF 'docketlaw2.DigestNames'. -/
def digestNamesCard : Claim7 := { stood := { row := digestNamesRow, standIns := [], harness := (true, "fcf053916e5297b7fa53820ec538ee5737df920d1fd3beb9b3fb68c22812aae5"), looks := false }, kinds := [], alts := [], laidByText := true, laidKinds := [.data], laidTests := true, laidLooks := .later }
def DigestNamesCardSaid : Prop := Claim7.holds Tryd.pinned (.plain (OpenSpec.ofChange digestNamesSpec)) digestNamesCard

/-- THE TIED CARD OF 'docketlaw2.DigestSums'. -/
def digestSumsCard : Claim7 := { stood := { row := digestSumsRow, standIns := [], harness := (true, "fcf053916e5297b7fa53820ec538ee5737df920d1fd3beb9b3fb68c22812aae5"), looks := false }, kinds := [], alts := [], laidByText := true, laidKinds := [.data], laidTests := true, laidLooks := .later }
def DigestSumsCardSaid : Prop := Claim7.holds Tryd.pinned (.plain (OpenSpec.ofChange digestSumsSpec)) digestSumsCard

/-- THE TIED CARD OF 'docketlaw2.DigestMacs'. -/
def digestMacsCard : Claim7 := { stood := { row := digestMacsRow, standIns := [], harness := (true, "fcf053916e5297b7fa53820ec538ee5737df920d1fd3beb9b3fb68c22812aae5"), looks := false }, kinds := [], alts := [], laidByText := true, laidKinds := [.data], laidTests := true, laidLooks := .later }
def DigestMacsCardSaid : Prop := Claim7.holds Tryd.pinned (.plain (OpenSpec.ofChange digestMacsSpec)) digestMacsCard

/-- THE TIED CARD OF 'docketlaw2.DigestMust'. -/
def digestMustCard : Claim7 := { stood := { row := digestMustRow, standIns := [], harness := (true, "fcf053916e5297b7fa53820ec538ee5737df920d1fd3beb9b3fb68c22812aae5"), looks := false }, kinds := [], alts := [], laidByText := true, laidKinds := [.data, .data, .data], laidTests := true, laidLooks := .later }
def DigestMustCardSaid : Prop := Claim7.holds Tryd.pinned (.plain (OpenSpec.ofChange digestMustSpec)) digestMustCard

/-- THE SECOND FORM's CARD OF 'docketlaw2.DigestNames'. -/
def digestNamesUptoCard : Claim7 := { stood := { row := digestNamesUptoRow, standIns := [], harness := (true, "fcf053916e5297b7fa53820ec538ee5737df920d1fd3beb9b3fb68c22812aae5"), looks := false }, kinds := [], alts := [], laidByText := true, laidKinds := [.data], laidTests := true, laidLooks := .later }
def DigestNamesUptoCardSaid : Prop := Claim7.holds Tryd.pinned (.plain (OpenSpec.upto digestNamesSpec)) digestNamesUptoCard

/-- THE SECOND FORM's CARD OF 'docketlaw2.DigestSums'. -/
def digestSumsUptoCard : Claim7 := { stood := { row := digestSumsUptoRow, standIns := [], harness := (true, "fcf053916e5297b7fa53820ec538ee5737df920d1fd3beb9b3fb68c22812aae5"), looks := false }, kinds := [], alts := [], laidByText := true, laidKinds := [.data], laidTests := true, laidLooks := .later }
def DigestSumsUptoCardSaid : Prop := Claim7.holds Tryd.pinned (.plain (OpenSpec.upto digestSumsSpec)) digestSumsUptoCard

/-- THE SECOND FORM's CARD OF 'docketlaw2.DigestMacs'. -/
def digestMacsUptoCard : Claim7 := { stood := { row := digestMacsUptoRow, standIns := [], harness := (true, "fcf053916e5297b7fa53820ec538ee5737df920d1fd3beb9b3fb68c22812aae5"), looks := false }, kinds := [], alts := [], laidByText := true, laidKinds := [.data], laidTests := true, laidLooks := .later }
def DigestMacsUptoCardSaid : Prop := Claim7.holds Tryd.pinned (.plain (OpenSpec.upto digestMacsSpec)) digestMacsUptoCard

/-- THE SECOND FORM's CARD OF 'docketlaw2.DigestMust'. -/
def digestMustUptoCard : Claim7 := { stood := { row := digestMustUptoRow, standIns := [], harness := (true, "fcf053916e5297b7fa53820ec538ee5737df920d1fd3beb9b3fb68c22812aae5"), looks := false }, kinds := [], alts := [], laidByText := true, laidKinds := [.data, .data, .data], laidTests := true, laidLooks := .later }
def DigestMustUptoCardSaid : Prop := Claim7.holds Tryd.pinned (.plain (OpenSpec.upto digestMustSpec)) digestMustUptoCard
end Rows
end Go.Proofs.YtdjingpmffgkcaaDoor
