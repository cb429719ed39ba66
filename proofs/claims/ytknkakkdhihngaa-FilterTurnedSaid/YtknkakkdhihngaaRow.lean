/- How an argument of a list of limbs reads, and the way from a walk to a row. -/
import Derived.Test.YtknkakkdhihngaaRows
import Derived.Test.YtknkakkdhihngaaNatA
import Derived.ProofKit
import Derived.SizedLaws
namespace Go.Proofs.Ytknkakkdhihngaa
open Go.ChangeShapes Go.WideShapes Go.ChangeAt Go.RowKit

theorem Try.own : ownKnob Try.prog.godebug = none := by kernel_rfl
theorem Try.laidOut : laidOutB Try.prog = true := by kernel_rfl
theorem Try.cells64 : Try.prog.cellsOf 22 = 1 := by kernel_rfl

theorem word_of_wf {x : Int} (h : (Lit.int .u64 x).wf = true) : 0 ≤ x ∧ x < 18446744073709551616 := by
  simp [Lit.wf, IntKind.min, IntKind.max, IntKind.signed, IntKind.bits] at h
  exact ⟨by omega, by omega⟩

theorem int_of_wf {x : Int} (h : (Lit.int .i64 x).wf = true) : x ≤ 9223372036854775807 := by
  simp [Lit.wf, IntKind.min, IntKind.max, IntKind.signed, IntKind.bits] at h
  omega

/-- An argument of type []uint64, nil or not. -/
theorem view64 {H : Type} {enc : TypeId × Value → H} {W : World} {fuel : Nat} {a0 : Option Addr} {len cap : Nat} {x : DataW H × List MemPlace}
    (hf : DataW.trod enc Try.prog W 0 (fun _ => true) true fuel 68 (Value.slice a0 len cap).cells.toList = some x) :
    ∃ zs : List Nat, len ≤ cap ∧ (a0 = none → cap = 0) ∧ Rd .u64 W64 W.heap.size W a0 len zs := by
  rcases open_ints Try.underlying68 Try.underlying22 Try.cells64 hf with ⟨hcs, hx⟩ | ⟨a, len', cap', zs, hcs, _, hl, hm, hz, hx, hcell, hwz⟩
  · simp [Value.cells] at hcs
    obtain ⟨rfl, rfl, rfl⟩ := hcs
    exact ⟨[], Nat.le_refl _, fun _ => rfl, Rd.nil _ _ _ _ _⟩
  · simp [Value.cells] at hcs
    obtain ⟨rfl, rfl, rfl⟩ := hcs
    simp only [if_true] at hz
    have hnth : ∀ i, i < len → ((nth ((zs.take len).map Int.toNat) i : Nat) : Int) = zs.getD i 0 ∧ nth ((zs.take len).map Int.toNat) i < W64 := fun i hi => by
      have hi2 : i < zs.length := by omega
      have hw := word_of_wf (hwz zs[i] (List.getElem_mem hi2))
      have e : nth ((zs.take len).map Int.toNat) i = (zs[i]).toNat := by simp [nth, hi, hi2]
      have e2 : zs.getD i 0 = zs[i] := by simp [hi2]
      rw [e, e2]
      unfold W64
      exact ⟨by omega, by omega⟩
    refine ⟨(zs.take len).map Int.toNat, hl, (fun h => by cases h), ⟨by simp; omega, fun i hi => (hnth i hi).2, fun i hi => ?_⟩⟩
    have hc := hcell i (by omega)
    obtain ⟨b, off, sp⟩ := a
    have hc0 := hcell 0 (by omega)
    have hsp : sp = none := by simpa [Addr.add] using World.cell?_spot hc0
    subst hsp
    have hb : b < W.heap.size := by simpa [Addr.add] using World.block_lt_of_cell? W _ hc0
    refine ⟨b, off, rfl, hb, ?_⟩
    rw [addr_add_lit] at hc
    rw [hc, (hnth i hi).1]

end Go.Proofs.Ytknkakkdhihngaa
