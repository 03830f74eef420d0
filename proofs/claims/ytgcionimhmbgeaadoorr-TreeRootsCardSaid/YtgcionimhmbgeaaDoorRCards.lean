/-
  DERIVED. GIVEN WITH THE SEED: THE CARDS: each row of YtgcionimhmbgeaaDoorRRows.lean that lists a variable, with what it lists TIED to the program's text (the seventh form; the later family's looks); each row that meets fmt, with fmt's text TOLD by the authors' own Lean function (tested against real Go, not proved from fmt's source: count such statements apart). THE CARD IS WHAT COUNTS. Prove the row's statement (the work); the ties are given (YtgcionimhmbgeaaDoorRTie.lean); close each card by the builder's one call (the guide's Derived/Test/ToyasCard.lean, 'card_holds'). Laid BY PROGRAM, IN A SANDBOX (cutbox-door.mjs). By AI agents, Wed Nov 11 2026. No macro, syntax, notation, axiom, sorry.
-/
import Derived.Test.YtgcionimhmbgeaaDoorRRows
import GoSem.ClaimSeven
namespace Go.Proofs.YtgcionimhmbgeaaDoorR
namespace Rows

/-- THE TIED CARD OF 'docketlaw6.TreeNumbers'. -/
def treeNumbersCard : Claim7 := { stood := { row := treeNumbersRow, standIns := [], harness := (true, "3a37ecf0c67e1cea7575c4713ff9af93e0ff888ae49f19e0f1574ebcfcb7f193"), looks := false }, kinds := [], alts := [], laidByText := true, laidKinds := [.data, .data, .data], laidTests := true, laidLooks := .later }
def TreeNumbersCardSaid : Prop := Claim7.holds Tryd.pinned (.plain (OpenSpec.ofChange treeNumbersSpec)) treeNumbersCard

/-- THE TIED CARD OF 'docketlaw6.TreeRoots'. -/
def treeRootsCard : Claim7 := { stood := { row := treeRootsRow, standIns := [], harness := (true, "3a37ecf0c67e1cea7575c4713ff9af93e0ff888ae49f19e0f1574ebcfcb7f193"), looks := false }, kinds := [], alts := [], laidByText := true, laidKinds := [.data], laidTests := true, laidLooks := .later }
def TreeRootsCardSaid : Prop := Claim7.holds Tryd.pinned (.plain (OpenSpec.ofChange treeRootsSpec)) treeRootsCard

/-- THE TIED CARD OF 'docketlaw6.TreeSpots'. -/
def treeSpotsCard : Claim7 := { stood := { row := treeSpotsRow, standIns := [], harness := (true, "3a37ecf0c67e1cea7575c4713ff9af93e0ff888ae49f19e0f1574ebcfcb7f193"), looks := false }, kinds := [], alts := [], laidByText := true, laidKinds := [.data, .data], laidTests := true, laidLooks := .later }
def TreeSpotsCardSaid : Prop := Claim7.holds Tryd.pinned (.plain (OpenSpec.ofChange treeSpotsSpec)) treeSpotsCard

/-- THE TIED CARD OF 'docketlaw6.TreeProves'. -/
def treeProvesCard : Claim7 := { stood := { row := treeProvesRow, standIns := [], harness := (true, "3a37ecf0c67e1cea7575c4713ff9af93e0ff888ae49f19e0f1574ebcfcb7f193"), looks := false }, kinds := [], alts := [], laidByText := true, laidKinds := [.data, .data, .data], laidTests := true, laidLooks := .later }
def TreeProvesCardSaid : Prop := Claim7.holds Tryd.pinned (.plain (OpenSpec.ofChange treeProvesSpec)) treeProvesCard

/-- THE TIED CARD OF 'docketlaw6.TreeIncludes'. -/
def treeIncludesCard : Claim7 := { stood := { row := treeIncludesRow, standIns := [], harness := (true, "3a37ecf0c67e1cea7575c4713ff9af93e0ff888ae49f19e0f1574ebcfcb7f193"), looks := false }, kinds := [], alts := [], laidByText := true, laidKinds := [.data], laidTests := true, laidLooks := .later }
def TreeIncludesCardSaid : Prop := Claim7.holds Tryd.pinned (.plain (OpenSpec.ofChange treeIncludesSpec)) treeIncludesCard

/-- THE TIED CARD OF 'docketlaw6.TreeTwice'. -/
def treeTwiceCard : Claim7 := { stood := { row := treeTwiceRow, standIns := [], harness := (true, "3a37ecf0c67e1cea7575c4713ff9af93e0ff888ae49f19e0f1574ebcfcb7f193"), looks := false }, kinds := [], alts := [], laidByText := true, laidKinds := [.data], laidTests := true, laidLooks := .later }
def TreeTwiceCardSaid : Prop := Claim7.holds Tryd.pinned (.plain (OpenSpec.ofChange treeTwiceSpec)) treeTwiceCard

/-- THE TIED CARD OF 'docketlaw6.TreeJoins'. -/
def treeJoinsCard : Claim7 := { stood := { row := treeJoinsRow, standIns := [], harness := (true, "3a37ecf0c67e1cea7575c4713ff9af93e0ff888ae49f19e0f1574ebcfcb7f193"), looks := false }, kinds := [], alts := [], laidByText := true, laidKinds := [.data], laidTests := true, laidLooks := .later }
def TreeJoinsCardSaid : Prop := Claim7.holds Tryd.pinned (.plain (OpenSpec.ofChange treeJoinsSpec)) treeJoinsCard

/-- THE TIED CARD OF 'docketlaw6.TreeThird'. -/
def treeThirdCard : Claim7 := { stood := { row := treeThirdRow, standIns := [], harness := (true, "3a37ecf0c67e1cea7575c4713ff9af93e0ff888ae49f19e0f1574ebcfcb7f193"), looks := false }, kinds := [], alts := [], laidByText := true, laidKinds := [.data], laidTests := true, laidLooks := .later }
def TreeThirdCardSaid : Prop := Claim7.holds Tryd.pinned (.plain (OpenSpec.ofChange treeThirdSpec)) treeThirdCard

/-- THE SECOND FORM's CARD OF 'docketlaw6.TreeNumbers'. -/
def treeNumbersUptoCard : Claim7 := { stood := { row := treeNumbersUptoRow, standIns := [], harness := (true, "3a37ecf0c67e1cea7575c4713ff9af93e0ff888ae49f19e0f1574ebcfcb7f193"), looks := false }, kinds := [], alts := [], laidByText := true, laidKinds := [.data, .data, .data], laidTests := true, laidLooks := .later }
def TreeNumbersUptoCardSaid : Prop := Claim7.holds Tryd.pinned (.plain (OpenSpec.upto treeNumbersSpec)) treeNumbersUptoCard

/-- THE SECOND FORM's CARD OF 'docketlaw6.TreeRoots'. -/
def treeRootsUptoCard : Claim7 := { stood := { row := treeRootsUptoRow, standIns := [], harness := (true, "3a37ecf0c67e1cea7575c4713ff9af93e0ff888ae49f19e0f1574ebcfcb7f193"), looks := false }, kinds := [], alts := [], laidByText := true, laidKinds := [.data], laidTests := true, laidLooks := .later }
def TreeRootsUptoCardSaid : Prop := Claim7.holds Tryd.pinned (.plain (OpenSpec.upto treeRootsSpec)) treeRootsUptoCard

/-- THE SECOND FORM's CARD OF 'docketlaw6.TreeSpots'. -/
def treeSpotsUptoCard : Claim7 := { stood := { row := treeSpotsUptoRow, standIns := [], harness := (true, "3a37ecf0c67e1cea7575c4713ff9af93e0ff888ae49f19e0f1574ebcfcb7f193"), looks := false }, kinds := [], alts := [], laidByText := true, laidKinds := [.data, .data], laidTests := true, laidLooks := .later }
def TreeSpotsUptoCardSaid : Prop := Claim7.holds Tryd.pinned (.plain (OpenSpec.upto treeSpotsSpec)) treeSpotsUptoCard

/-- THE SECOND FORM's CARD OF 'docketlaw6.TreeProves'. -/
def treeProvesUptoCard : Claim7 := { stood := { row := treeProvesUptoRow, standIns := [], harness := (true, "3a37ecf0c67e1cea7575c4713ff9af93e0ff888ae49f19e0f1574ebcfcb7f193"), looks := false }, kinds := [], alts := [], laidByText := true, laidKinds := [.data, .data, .data], laidTests := true, laidLooks := .later }
def TreeProvesUptoCardSaid : Prop := Claim7.holds Tryd.pinned (.plain (OpenSpec.upto treeProvesSpec)) treeProvesUptoCard

/-- THE SECOND FORM's CARD OF 'docketlaw6.TreeIncludes'. -/
def treeIncludesUptoCard : Claim7 := { stood := { row := treeIncludesUptoRow, standIns := [], harness := (true, "3a37ecf0c67e1cea7575c4713ff9af93e0ff888ae49f19e0f1574ebcfcb7f193"), looks := false }, kinds := [], alts := [], laidByText := true, laidKinds := [.data], laidTests := true, laidLooks := .later }
def TreeIncludesUptoCardSaid : Prop := Claim7.holds Tryd.pinned (.plain (OpenSpec.upto treeIncludesSpec)) treeIncludesUptoCard

/-- THE SECOND FORM's CARD OF 'docketlaw6.TreeTwice'. -/
def treeTwiceUptoCard : Claim7 := { stood := { row := treeTwiceUptoRow, standIns := [], harness := (true, "3a37ecf0c67e1cea7575c4713ff9af93e0ff888ae49f19e0f1574ebcfcb7f193"), looks := false }, kinds := [], alts := [], laidByText := true, laidKinds := [.data], laidTests := true, laidLooks := .later }
def TreeTwiceUptoCardSaid : Prop := Claim7.holds Tryd.pinned (.plain (OpenSpec.upto treeTwiceSpec)) treeTwiceUptoCard

/-- THE SECOND FORM's CARD OF 'docketlaw6.TreeJoins'. -/
def treeJoinsUptoCard : Claim7 := { stood := { row := treeJoinsUptoRow, standIns := [], harness := (true, "3a37ecf0c67e1cea7575c4713ff9af93e0ff888ae49f19e0f1574ebcfcb7f193"), looks := false }, kinds := [], alts := [], laidByText := true, laidKinds := [.data], laidTests := true, laidLooks := .later }
def TreeJoinsUptoCardSaid : Prop := Claim7.holds Tryd.pinned (.plain (OpenSpec.upto treeJoinsSpec)) treeJoinsUptoCard

/-- THE SECOND FORM's CARD OF 'docketlaw6.TreeThird'. -/
def treeThirdUptoCard : Claim7 := { stood := { row := treeThirdUptoRow, standIns := [], harness := (true, "3a37ecf0c67e1cea7575c4713ff9af93e0ff888ae49f19e0f1574ebcfcb7f193"), looks := false }, kinds := [], alts := [], laidByText := true, laidKinds := [.data], laidTests := true, laidLooks := .later }
def TreeThirdUptoCardSaid : Prop := Claim7.holds Tryd.pinned (.plain (OpenSpec.upto treeThirdSpec)) treeThirdUptoCard
end Rows
end Go.Proofs.YtgcionimhmbgeaaDoorR
