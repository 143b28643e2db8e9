/-
  DERIVED. GIVEN WITH THE SEED: THE CARDS: each row of YtejhccmclanlmaaGreatDoorRows.lean that lists a variable, with what it lists TIED to the program's text (the seventh form; the later family's looks); each row that meets fmt, with fmt's text TOLD by the authors' own Lean function (tested against real Go, not proved from fmt's source: count such statements apart). THE CARD IS WHAT COUNTS. Prove the row's statement (the work); the ties are given (YtejhccmclanlmaaGreatDoorTie.lean); close each card by the builder's one call (the guide's Derived/Test/ToyasCard.lean, 'card_holds'). Laid BY PROGRAM, IN A SANDBOX (cutbox-door.mjs). By AI agents, Wed Nov 11 2026. No macro, syntax, notation, axiom, sorry.
-/
import Derived.Test.YtejhccmclanlmaaGreatDoorRows
import GoSem.ClaimSeven
namespace Go.Proofs.YtejhccmclanlmaaGreatDoor
namespace Rows

/-- THE TIED CARD OF 'clockwalllaw.ApartSame'. -/
def apartSameCard : Claim7 := { stood := { row := apartSameRow, standIns := [], harness := (true, "e2d4ccaa335661b1cf0e18013f465816bc2be50be0b1cbbe56f3c74e3cbb2482"), looks := true }, kinds := [], alts := [], laidByText := true, laidKinds := [.data, .data, .data], laidTests := true, laidLooks := .later }
def ApartSameCardSaid : Prop := Claim7.holds Tryz.pinned (.plain (OpenSpec.ofChange apartSameSpec)) apartSameCard

/-- THE TIED CARD OF 'clockwalllaw.ApartAlone'. -/
def apartAloneCard : Claim7 := { stood := { row := apartAloneRow, standIns := [], harness := (true, "e2d4ccaa335661b1cf0e18013f465816bc2be50be0b1cbbe56f3c74e3cbb2482"), looks := true }, kinds := [], alts := [], laidByText := true, laidKinds := [.data, .data, .data], laidTests := true, laidLooks := .later }
def ApartAloneCardSaid : Prop := Claim7.holds Tryz.pinned (.plain (OpenSpec.ofChange apartAloneSpec)) apartAloneCard

/-- THE TIED CARD OF 'clockwalllaw.ApartWalls'. -/
def apartWallsCard : Claim7 := { stood := { row := apartWallsRow, standIns := [], harness := (true, "e2d4ccaa335661b1cf0e18013f465816bc2be50be0b1cbbe56f3c74e3cbb2482"), looks := true }, kinds := [], alts := [], laidByText := true, laidKinds := [.data, .data, .data], laidTests := true, laidLooks := .later }
def ApartWallsCardSaid : Prop := Claim7.holds Tryz.pinned (.plain (OpenSpec.ofChange apartWallsSpec)) apartWallsCard

/-- THE SECOND FORM's CARD OF 'clockwalllaw.ApartSame'. -/
def apartSameUptoCard : Claim7 := { stood := { row := apartSameUptoRow, standIns := [], harness := (true, "e2d4ccaa335661b1cf0e18013f465816bc2be50be0b1cbbe56f3c74e3cbb2482"), looks := true }, kinds := [], alts := [], laidByText := true, laidKinds := [.data, .data, .data], laidTests := true, laidLooks := .later }
def ApartSameUptoCardSaid : Prop := Claim7.holds Tryz.pinned (.plain (OpenSpec.upto apartSameSpec)) apartSameUptoCard

/-- THE SECOND FORM's CARD OF 'clockwalllaw.ApartAlone'. -/
def apartAloneUptoCard : Claim7 := { stood := { row := apartAloneUptoRow, standIns := [], harness := (true, "e2d4ccaa335661b1cf0e18013f465816bc2be50be0b1cbbe56f3c74e3cbb2482"), looks := true }, kinds := [], alts := [], laidByText := true, laidKinds := [.data, .data, .data], laidTests := true, laidLooks := .later }
def ApartAloneUptoCardSaid : Prop := Claim7.holds Tryz.pinned (.plain (OpenSpec.upto apartAloneSpec)) apartAloneUptoCard

/-- THE SECOND FORM's CARD OF 'clockwalllaw.ApartWalls'. -/
def apartWallsUptoCard : Claim7 := { stood := { row := apartWallsUptoRow, standIns := [], harness := (true, "e2d4ccaa335661b1cf0e18013f465816bc2be50be0b1cbbe56f3c74e3cbb2482"), looks := true }, kinds := [], alts := [], laidByText := true, laidKinds := [.data, .data, .data], laidTests := true, laidLooks := .later }
def ApartWallsUptoCardSaid : Prop := Claim7.holds Tryz.pinned (.plain (OpenSpec.upto apartWallsSpec)) apartWallsUptoCard
end Rows
end Go.Proofs.YtejhccmclanlmaaGreatDoor
