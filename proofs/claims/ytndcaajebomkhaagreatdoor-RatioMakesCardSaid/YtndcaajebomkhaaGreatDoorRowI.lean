/- How an argument of a whole number reads: a flag, and a list of limbs. -/
import Derived.Test.YtndcaajebomkhaaGreatDoorRow
import Derived.Test.YtndcaajebomkhaaGreatDoorInt
import Derived.Lib.SmallJoins
namespace Go.Proofs.YtndcaajebomkhaaGreatDoor
open Go.ChangeShapes Go.WideShapes Go.ChangeAt Go.RowKit Go.Joins

theorem Tryz.cellsInt : Tryz.prog.cellsOf 24 = 2 := by kernel_rfl

set_option maxRecDepth 100000 in
/-- A field of type []uint64. -/
theorem field64 {H : Type} {enc : TypeId × Value → H} {W : World} {fuel : Nat} {v : Value} {x : DataW H × List MemPlace}
    (hf : DataW.trod enc Tryz.prog W 0 (fun _ => true) true fuel 22 [v] = some x) :
    ∃ (q : Option Addr) (m c : Nat) (zs : List Nat), v = .slice q m c ∧ m ≤ c ∧ Rd .u64 W64 W.heap.size W q m zs := by
  have hf2 := hf
  rcases open_ints Tryz.underlying22 Tryz.underlying53 Tryz.cells64 hf with ⟨hcs, hx⟩ | ⟨a, len', cap', zs, hcs, _⟩
  · simp at hcs
    subst hcs
    exact ⟨none, 0, 0, [], rfl, Nat.le_refl _, Rd.nil _ _ _ _ _⟩
  · simp at hcs
    subst hcs
    obtain ⟨ys, h1, _, h2⟩ := view64 (a0 := some a) (len := len') (cap := cap') hf2
    exact ⟨_, _, _, ys, rfl, h1, h2⟩
set_option maxRecDepth 100000 in
/-- An argument of type api.Int. -/
theorem viewInt {H : Type} {enc : TypeId × Value → H} {W : World} {base : Nat} {v : Value} {d : DataW H} {p : List MemPlace}
    (hv : Value.okWide Tryz.prog W .any base 24 v) (h : DataW.Trod enc Tryz.prog W 0 (fun _ => true) true 24 v d p) :
    ∃ (n : Bool) (q : Option Addr) (m c : Nat) (xs : List Nat), v = .agg #[.bool n, .slice q m c] ∧ m ≤ c ∧ Rd .u64 W64 W.heap.size W q m xs := by
  obtain ⟨c0, c1, y0, y1, k, rfl, _, _, hy0, hy1⟩ := open_agg2 Tryz.underlying24 (by kernel_rfl) Tryz.cellsInt hv h
  obtain ⟨q, m, c, zs, rfl, h1, h2⟩ := field64 hy1
  obtain ⟨b, h3, _⟩ := DataW.trod_bool Tryz.underlying4 hy0
  simp at h3
  subst h3
  exact ⟨b, q, m, c, zs, rfl, h1, h2⟩
end Go.Proofs.YtndcaajebomkhaaGreatDoor
