/-
  DERIVED. GIVEN WITH THE SEED: THE CARDS: each row of YtpkhfdcokcchdabDoorRows.lean that lists a variable, with what it lists TIED to the program's text (the seventh form; the later family's looks); each row that meets fmt, with fmt's text TOLD by the authors' own Lean function (tested against real Go, not proved from fmt's source: count such statements apart). THE CARD IS WHAT COUNTS. Prove the row's statement (the work); the ties are given (YtpkhfdcokcchdabDoorTie.lean); close each card by the builder's one call (the guide's Derived/Test/ToyasCard.lean, 'card_holds'). Laid BY PROGRAM, IN A SANDBOX (cutbox-door.mjs). By AI agents, Wed Nov 11 2026. No macro, syntax, notation, axiom, sorry.
-/
import Derived.Test.YtpkhfdcokcchdabDoorRows
import GoSem.ClaimSeven
namespace Go.Proofs.YtpkhfdcokcchdabDoor
namespace Rows

/-- THE TIED CARD OF 'gabionlaw12.RecBytes'. -/
def recBytesCard : Claim7 := { stood := { row := recBytesRow, standIns := [], harness := (true, "8fa46134d671ca0c60f4422505bb15c6514b4c62fd2d78acf0eabd0c7e705d32"), looks := false }, kinds := [], alts := [], laidByText := true, laidKinds := [.data, .pinned], laidTests := true, laidLooks := .later }
def RecBytesCardSaid : Prop := Claim7.holds Tryd.pinned (.plain (OpenSpec.ofChange recBytesSpec)) recBytesCard

/-- THE TIED CARD OF 'gabionlaw12.RecFollows'. -/
def recFollowsCard : Claim7 := { stood := { row := recFollowsRow, standIns := [], harness := (true, "8fa46134d671ca0c60f4422505bb15c6514b4c62fd2d78acf0eabd0c7e705d32"), looks := false }, kinds := [], alts := [], laidByText := true, laidKinds := [.data, .pinned], laidTests := true, laidLooks := .later }
def RecFollowsCardSaid : Prop := Claim7.holds Tryd.pinned (.plain (OpenSpec.ofChange recFollowsSpec)) recFollowsCard

/-- THE TIED CARD OF 'gabionlaw12.RecBack'. -/
def recBackCard : Claim7 := { stood := { row := recBackRow, standIns := [], harness := (true, "8fa46134d671ca0c60f4422505bb15c6514b4c62fd2d78acf0eabd0c7e705d32"), looks := false }, kinds := [], alts := [], laidByText := true, laidKinds := [.data, .pinned], laidTests := true, laidLooks := .later }
def RecBackCardSaid : Prop := Claim7.holds Tryd.pinned (.plain (OpenSpec.ofChange recBackSpec)) recBackCard

/-- THE TIED CARD OF 'gabionlaw12.RecWords'. -/
def recWordsCard : Claim7 := { stood := { row := recWordsRow, standIns := [], harness := (true, "8fa46134d671ca0c60f4422505bb15c6514b4c62fd2d78acf0eabd0c7e705d32"), looks := false }, kinds := [], alts := [], laidByText := true, laidKinds := [.data, .pinned], laidTests := true, laidLooks := .later }
def RecWordsCardSaid : Prop := Claim7.holds Tryd.pinned (.plain (OpenSpec.ofChange recWordsSpec)) recWordsCard

/-- THE SECOND FORM's CARD OF 'gabionlaw12.RecBytes'. -/
def recBytesUptoCard : Claim7 := { stood := { row := recBytesUptoRow, standIns := [], harness := (true, "8fa46134d671ca0c60f4422505bb15c6514b4c62fd2d78acf0eabd0c7e705d32"), looks := false }, kinds := [], alts := [], laidByText := true, laidKinds := [.data, .pinned], laidTests := true, laidLooks := .later }
def RecBytesUptoCardSaid : Prop := Claim7.holds Tryd.pinned (.plain (OpenSpec.upto recBytesSpec)) recBytesUptoCard

/-- THE SECOND FORM's CARD OF 'gabionlaw12.RecFollows'. -/
def recFollowsUptoCard : Claim7 := { stood := { row := recFollowsUptoRow, standIns := [], harness := (true, "8fa46134d671ca0c60f4422505bb15c6514b4c62fd2d78acf0eabd0c7e705d32"), looks := false }, kinds := [], alts := [], laidByText := true, laidKinds := [.data, .pinned], laidTests := true, laidLooks := .later }
def RecFollowsUptoCardSaid : Prop := Claim7.holds Tryd.pinned (.plain (OpenSpec.upto recFollowsSpec)) recFollowsUptoCard

/-- THE SECOND FORM's CARD OF 'gabionlaw12.RecBack'. -/
def recBackUptoCard : Claim7 := { stood := { row := recBackUptoRow, standIns := [], harness := (true, "8fa46134d671ca0c60f4422505bb15c6514b4c62fd2d78acf0eabd0c7e705d32"), looks := false }, kinds := [], alts := [], laidByText := true, laidKinds := [.data, .pinned], laidTests := true, laidLooks := .later }
def RecBackUptoCardSaid : Prop := Claim7.holds Tryd.pinned (.plain (OpenSpec.upto recBackSpec)) recBackUptoCard

/-- THE SECOND FORM's CARD OF 'gabionlaw12.RecWords'. -/
def recWordsUptoCard : Claim7 := { stood := { row := recWordsUptoRow, standIns := [], harness := (true, "8fa46134d671ca0c60f4422505bb15c6514b4c62fd2d78acf0eabd0c7e705d32"), looks := false }, kinds := [], alts := [], laidByText := true, laidKinds := [.data, .pinned], laidTests := true, laidLooks := .later }
def RecWordsUptoCardSaid : Prop := Claim7.holds Tryd.pinned (.plain (OpenSpec.upto recWordsSpec)) recWordsUptoCard
end Rows
end Go.Proofs.YtpkhfdcokcchdabDoor
