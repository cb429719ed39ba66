/- How an argument of a point reads: two words. -/
import Derived.Test.YtknkakkdhihngaaRow
import Derived.Lib.SmallJoins
namespace Go.Proofs.Ytknkakkdhihngaa
open Go.ChangeShapes Go.WideShapes Go.ChangeAt Go.RowKit Go.Joins

theorem Try.cellsPoint : Try.prog.cellsOf 24 = 2 := by kernel_rfl
set_option maxRecDepth 100000 in
/-- An argument of type api.Point. -/
theorem viewPoint {H : Type} {enc : TypeId × Value → H} {W : World} {base : Nat} {v : Value} {d : DataW H} {p : List MemPlace}
    (hv : Value.okWide Try.prog W .any base 24 v) (h : DataW.Trod enc Try.prog W 0 (fun _ => true) true 24 v d p) :
    ∃ x y : Nat, v = .agg #[.int .u64 (x : Int), .int .u64 (y : Int)] ∧ x < 18446744073709551616 ∧ y < 18446744073709551616 := by
  obtain ⟨c0, c1, y0, y1, k, rfl, _, _, hy0, hy1⟩ := open_agg2 Try.underlying24 (by kernel_rfl) Try.cellsPoint hv h
  obtain ⟨n, h3, _, w3⟩ := DataW.trod_int Try.underlying22 hy0
  obtain ⟨m, h4, _, w4⟩ := DataW.trod_int Try.underlying22 hy1
  simp at h3 h4
  subst h3 h4
  have g3 := word_of_wf w3
  have g4 := word_of_wf w4
  exact ⟨n.toNat, m.toNat, by rw [Int.toNat_of_nonneg g3.1, Int.toNat_of_nonneg g4.1], by omega, by omega⟩
end Go.Proofs.Ytknkakkdhihngaa
