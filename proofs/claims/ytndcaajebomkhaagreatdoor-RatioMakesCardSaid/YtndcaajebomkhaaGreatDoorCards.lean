/-
  DERIVED. GIVEN WITH THE SEED: THE CARDS: each row of YtndcaajebomkhaaGreatDoorRows.lean that lists a variable, with what it lists TIED to the program's text (the seventh form; the later family's looks); each row that meets fmt, with fmt's text TOLD by the authors' own Lean function (tested against real Go, not proved from fmt's source: count such statements apart). THE CARD IS WHAT COUNTS. Prove the row's statement (the work); the ties are given (YtndcaajebomkhaaGreatDoorTie.lean); close each card by the builder's one call (the guide's Derived/Test/ToyasCard.lean, 'card_holds'). Laid BY PROGRAM, IN A SANDBOX (cutbox-door.mjs). By AI agents, Wed Nov 11 2026. No macro, syntax, notation, axiom, sorry.
-/
import Derived.Test.YtndcaajebomkhaaGreatDoorRows
import GoSem.ClaimSeven
namespace Go.Proofs.YtndcaajebomkhaaGreatDoor
namespace Rows

/-- THE TIED CARD OF 'outriggerlaw03.SplitTexts'. -/
def splitTextsCard : Claim7 := { stood := { row := splitTextsRow, standIns := [], harness := (true, "b750dbab0b154a9d9de0442a36d14e28e11ec84dfdf122aeb15f448a1fb8cef7"), looks := true }, kinds := [], alts := [], laidByText := true, laidKinds := [.data, .data, .data, .handle, .sentinel, .sentinel], laidTests := true, laidLooks := .later }
def SplitTextsCardSaid : Prop := Claim7.holds Tryz.pinned (.plain (OpenSpec.ofChange splitTextsSpec)) splitTextsCard

/-- THE TIED CARD OF 'outriggerlaw04.RatioMakes'. -/
def ratioMakesCard : Claim7 := { stood := { row := ratioMakesRow, standIns := [], harness := (true, "b750dbab0b154a9d9de0442a36d14e28e11ec84dfdf122aeb15f448a1fb8cef7"), looks := true }, kinds := [], alts := [], laidByText := true, laidKinds := [.data, .data, .data, .handle], laidTests := true, laidLooks := .later }
def RatioMakesCardSaid : Prop := Claim7.holds Tryz.pinned (.plain (OpenSpec.ofChange ratioMakesSpec)) ratioMakesCard

/-- THE SECOND FORM's CARD OF 'outriggerlaw03.SplitTexts'. -/
def splitTextsUptoCard : Claim7 := { stood := { row := splitTextsUptoRow, standIns := [], harness := (true, "b750dbab0b154a9d9de0442a36d14e28e11ec84dfdf122aeb15f448a1fb8cef7"), looks := true }, kinds := [], alts := [], laidByText := true, laidKinds := [.data, .data, .data, .handle, .sentinel, .sentinel], laidTests := true, laidLooks := .later }
def SplitTextsUptoCardSaid : Prop := Claim7.holds Tryz.pinned (.plain (OpenSpec.upto splitTextsSpec)) splitTextsUptoCard

/-- THE SECOND FORM's CARD OF 'outriggerlaw04.RatioMakes'. -/
def ratioMakesUptoCard : Claim7 := { stood := { row := ratioMakesUptoRow, standIns := [], harness := (true, "b750dbab0b154a9d9de0442a36d14e28e11ec84dfdf122aeb15f448a1fb8cef7"), looks := true }, kinds := [], alts := [], laidByText := true, laidKinds := [.data, .data, .data, .handle], laidTests := true, laidLooks := .later }
def RatioMakesUptoCardSaid : Prop := Claim7.holds Tryz.pinned (.plain (OpenSpec.upto ratioMakesSpec)) ratioMakesUptoCard
end Rows
end Go.Proofs.YtndcaajebomkhaaGreatDoor
