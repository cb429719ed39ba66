/- The tables of the library that the rows list: from the row's condition to what the walks ask; a world that meets it. -/
import Derived.Test.YtndcaajebomkhaaGreatDoorRow
import Derived.Test.YtndcaajebomkhaaGreatDoorLibB
import Derived.Test.YtndcaajebomkhaaGreatDoorFmt
import Derived.ChangeSame
import Derived.ChangeVars
import Derived.JoinedOf
import Derived.LaidLaws
import Derived.LaidHandle
import Derived.LaidMore
import Derived.MakeChecks
import Derived.Stop.LaidErr
import Derived.Stop.Joined
namespace Go.Proofs.YtndcaajebomkhaaGreatDoor
open Go.ChangeShapes Go.WideShapes Go.RowKit

/-- What the rows list. -/
def laidTabs : List (String × DataW Unit) := [("math/bits.deBruijn32tab", Rows.laid_math_bits_deBruijn32tab), ("math/bits.deBruijn64tab", Rows.laid_math_bits_deBruijn64tab), ("internal/strconv.uint64pow10", Rows.laid_internal_strconv_uint64pow10)]

theorem tab64_met {W : World} (h : laidMet Tryz.prog laidTabs W) : TabVar W := by
  have h1 := h.tail
  have h2 : Lib.TabIs Tryz.prog W "math/bits.deBruijn64tab" .u8 (Lib.deBruijn64tab.map Int.ofNat) :=
    Lib.tabIs_of_head (g := 3) (t := 160) (e := 5) (n := 64) (by kernel_rfl) (by kernel_rfl) Tryz.underlying160 Tryz.underlying5 (by kernel_rfl) (by kernel_rfl) h1
  intro j hj
  rw [h2.cell (g := 3) (by kernel_rfl) j (by simpa using hj)]
  congr 2
  simp [List.getD, List.getElem?_map, List.getElem?_eq_getElem hj]
theorem pow_met {W : World} (h : laidMet Tryz.prog laidTabs W) : PowVar W :=
  Lib.tabIs_of_head (g := 4) (t := 163) (e := 53) (n := 20) (by kernel_rfl) (by kernel_rfl) Tryz.underlying163 Tryz.underlying53 (by kernel_rfl) (by kernel_rfl) h.tail.tail
theorem laidTabs_plain (W : World) : laidMetH Tryz.prog laidTabs W = laidMet Tryz.prog laidTabs W := MakeChecks.laidMetH_plain _ _ _ (by kernel_rfl)

/-- The heap that the variables' own initialisers leave meets the condition. -/
theorem laidTabs_met (os : Os) (args : Array Value) : laidMetH Tryz.prog laidTabs ((World.doorLaid Tryz.prog 400 os).forCall (fun _ _ => 0) ⟨#[], args, []⟩).memory :=
  laidMetH_of_parts3 (fuel := 8) (laidMet_of_run' 8 (by kernel_rfl) (by kernel_rfl)) (by kernel_rfl) (by kernel_rfl)
end Go.Proofs.YtndcaajebomkhaaGreatDoor
