/- The tables of the library and package errors' own variable that the rows list: from the row's condition to what the walks ask; a world that meets it. -/
import Derived.Test.YtndcaajebomkhaaGreatDoorLaidC
import Derived.Test.YtndcaajebomkhaaGreatDoorAs
import Derived.LaidSub
namespace Go.Proofs.YtndcaajebomkhaaGreatDoor
open Go.ChangeShapes Go.WideShapes Go.RowKit

theorem laidVar : Tryz.prog.globalNamed "errors.errorType" = some 0 := by kernel_rfl
theorem laidRtype : (Tryz.prog.cutTypes.find? (·.1 == "internal/reflectlite.rtype")).map (·.2) = some 143 := by kernel_rfl
theorem laidOneRow : ((List.range 212).filter fun t => Tryz.prog.rowNamed t [101, 114, 114, 111, 114]) = [31] := by kernel_rfl
theorem laidSize : Tryz.prog.types.size = 212 := by kernel_rfl

/-- What the rows list. -/
def laidAll : List (String × DataW Unit) := [("math/bits.deBruijn32tab", Rows.laid_math_bits_deBruijn32tab), ("math/bits.deBruijn64tab", Rows.laid_math_bits_deBruijn64tab), ("internal/strconv.uint64pow10", Rows.laid_internal_strconv_uint64pow10), ("errors.errorType", Rows.laid_errors_errorType)]

theorem laidAll_gives {W : World} (h : laidMetH Tryz.prog laidAll W) : TabVar W ∧ PowVar W ∧ ErrVar W := by
  have h' : laidMet Tryz.prog laidTabs W ∧ handlesMet Tryz.prog [("errors.errorType", Rows.laid_errors_errorType)] W := h
  refine ⟨tab64_met h'.1, pow_met h'.1, ?_⟩
  obtain ⟨name, u, ty, e1, e2, e3, e4, e5⟩ := h'.2 _ (List.mem_singleton.2 rfl)
  have en : name = [101, 114, 114, 111, 114] := (Option.some.inj e1).symm
  subst en
  obtain rfl := Option.some.inj (laidRtype.symm.trans e2)
  have hm : ty ∈ (List.range 212).filter fun t => Tryz.prog.rowNamed t [101, 114, 114, 111, 114] := List.mem_filter.2 ⟨List.mem_range.2 (by rw [← laidSize]; exact e3), e4⟩
  rw [laidOneRow] at hm
  obtain rfl := List.mem_singleton.1 hm
  have hh : typeHandle Tryz.prog 31 = .pointer (some ⟨9, 31, none⟩) := by kernel_rfl
  rw [hh] at e5
  unfold ErrVar
  simpa using World.var?_cell laidVar e5 0

/-- The heap that the variables' own initialisers leave meets the condition. -/
theorem laidAll_met (os : Os) (args : Array Value) : laidMetH Tryz.prog laidAll ((World.doorLaid Tryz.prog 400 os).forCall (fun _ _ => 0) ⟨#[], args, []⟩).memory :=
  laidMetH_of_parts3 (fuel := 8) (laidMet_of_run' 8 (by kernel_rfl) (by kernel_rfl)) (by kernel_rfl) (by kernel_rfl)

/-- What the row lists. -/
def laidSix : List (String × DataW Unit) := [("math/bits.deBruijn32tab", Rows.laid_math_bits_deBruijn32tab), ("math/bits.deBruijn64tab", Rows.laid_math_bits_deBruijn64tab), ("internal/strconv.uint64pow10", Rows.laid_internal_strconv_uint64pow10), ("errors.errorType", Rows.laid_errors_errorType), ("strconv.ErrRange", Rows.laid_strconv_ErrRange), ("strconv.ErrSyntax", Rows.laid_strconv_ErrSyntax)]
/-- Those that the walks ask of. -/
def sixKeep (x : String × DataW Unit) : Bool := x.1 != "strconv.ErrRange" && x.1 != "strconv.ErrSyntax"
theorem laidSix_filter : laidSix.filter sixKeep = laidAll := by kernel_rfl
theorem laidSix_gives {W : World} (h : laidMetH Tryz.prog laidSix W) : TabVar W ∧ PowVar W ∧ ErrVar W := by
  have h1 := h.filter sixKeep
  rw [laidSix_filter] at h1
  exact laidAll_gives h1

/-- The heap that the variables' own initialisers leave meets the condition. -/
theorem laidSix_met (os : Os) (args : Array Value) : laidMetH Tryz.prog laidSix ((World.doorLaid Tryz.prog 400 os).forCall (fun _ _ => 0) ⟨#[], args, []⟩).memory :=
  laidMetH_of_parts3 (fuel := 8) (laidMet_of_run' 8 (by kernel_rfl) (by kernel_rfl)) (by kernel_rfl) (by kernel_rfl)
end Go.Proofs.YtndcaajebomkhaaGreatDoor
