/- FloatOrder: whatever three words of 64 bits are handed in, the law returns true. The table of the library, and package errors own variable, that the row lists are tied to the program by its card. -/
import Derived.Test.YtioajdabiejhmaaDoorLaidF
import Derived.Test.YtioajdabiejhmaaDoorTie
import Derived.Test.YtioajdabiejhmaaDoorCards
import Derived.Test.YtioajdabiejhmaaDoorLawL
import Derived.SevenTiedAt
namespace Go.Proofs.YtioajdabiejhmaaDoor
open Go.ChangeShapes Go.WideShapes Go.ChangeAt Go.RowKit

set_option maxRecDepth 100000 in
theorem floatOrder_lifted (os : Os) (started : os.Started) (H : Type) (enc : TypeId × Value → H) :
    ReturnsInHanded {} Tryd.checked os 5 .any (fun w args => (Rows.floatOrderSpec.pre enc Tryd.prog Tryd.f5 [] false w args ∧ laidMetH Tryd.prog laidTwo w) ∧ sizedMet enc Tryd.prog Tryd.f5 (OpenSpec.ofChange Rows.floatOrderSpec) false w args)
      (Rows.floatOrderSpec.post enc Tryd.prog Tryd.f5 false true false false) := by
  refine returnsInHanded_of_change_and (C := Tryd.checked) (X := fun w _ => laidMetH Tryd.prog laidTwo w) (fun _ _ _ hh h => h.of_heap hh) Tryd.own started (by kernel_rfl) Tryd.func5
    (ChangeSpec.witness_shaped (enc := enc) (C := Tryd.checked) (os := os) (X := fun w _ => laidMetH Tryd.prog laidTwo w) false (World.doorLaid Tryd.prog 400 os) #[.int .u64 0, .int .u64 0, .int .u64 0] 8 rfl (World.shaped_of_RefB (by kernel_rfl) (by kernel_rfl)) (by kernel_rfl) (by kernel_rfl) (by kernel_rfl) (laidTwo_met os _)) ?_
  intro W base args ds gs before hval0 hW _ _ hL _
  have hval : ∀ (j : Nat) t v, Tryd.f5.params[j]? = some t → args[j]? = some v → Value.okWide Tryd.prog W .any base t v := hval0
  have hW' := hW
  obtain ⟨p, q, hA0, hV0, rfl, hfz, hnd⟩ := hW
  have hA : DataW.TrodAll enc Tryd.prog W 0 (fun _ => true) true Tryd.f5.params.toList args.toList ds p := hA0
  have hV : DataW.TrodVars enc Tryd.prog W (fun _ => true) [] gs q := hV0
  rw [Tryd.params5] at hA hval
  obtain ⟨v0, v1, v2, d0, d1, d2, p0, p1, p2, rfl, rfl, rfl, h0, h1, h2⟩ := trodAll_three hA
  obtain ⟨n0, rfl, rfl, rfl, wn0⟩ := open_int Tryd.underlying22 (hval 0 22 v0 rfl rfl) h0
  obtain ⟨u0, rfl⟩ : ∃ u : Nat, n0 = (u : Int) := ⟨n0.toNat, by have := word_of_wf wn0; omega⟩
  have bn0 : u0 < 18446744073709551616 := by have := word_of_wf wn0; omega
  obtain ⟨n1, rfl, rfl, rfl, wn1⟩ := open_int Tryd.underlying22 (hval 1 22 v1 rfl rfl) h1
  obtain ⟨u1, rfl⟩ : ∃ u : Nat, n1 = (u : Int) := ⟨n1.toNat, by have := word_of_wf wn1; omega⟩
  have bn1 : u1 < 18446744073709551616 := by have := word_of_wf wn1; omega
  obtain ⟨n2, rfl, rfl, rfl, wn2⟩ := open_int Tryd.underlying22 (hval 2 22 v2 rfl rfl) h2
  obtain ⟨u2, rfl⟩ : ∃ u : Nat, n2 = (u : Int) := ⟨n2.toNat, by have := word_of_wf wn2; omega⟩
  have bn2 : u2 < 18446744073709551616 := by have := word_of_wf wn2; omega
  obtain ⟨hT, hg⟩ := laidTwo_gives hL
  obtain ⟨rfl, rfl⟩ : gs = [] ∧ q = [] := by
    cases gs with
    | nil => exact ⟨rfl, hV⟩
    | cons g r => exact absurd hV (by intro h; cases h)
  clear hA0 hval0 hV0
  simp only [List.append_nil] at hW'
  refine (floatOrder_walk u0 u1 u2 W bn0 bn1 bn2 hT hg).mono fun e W' ⟨he, hnx⟩ => ?_
  subst he
  exact ⟨_, rfl, _, _, _, [], _, [], hW', trodAll_mk1 (shut_bool Tryd.underlying4 _), trodAll_mk3 (shut_int Tryd.underlying22 wn0) (shut_int Tryd.underlying22 wn1) (shut_int Tryd.underlying22 wn2), rfl, hnx.frame _, fun h => by cases h⟩

theorem floatOrder_said : Rows.FloatOrderSaid :=
  OpenClaim.holds_of_wide 5 Tryd.f5 rfl rfl rfl rfl rfl rfl rfl ⟨rfl, rfl, rfl, rfl, rfl⟩ rfl rfl rfl rfl rfl (by kernel_rfl) Tryd.func5 (by kernel_rfl)
    (of_decide_eq_true (by kernel_rfl)) (by unfold Func.isWrapper; rw [if_neg (of_decide_eq_false (by kernel_rfl))]; exact ⟨rfl, rfl⟩)
    (fun os started H enc _ => floatOrder_lifted os started H enc)

theorem floatOrder_holds : Rows.FloatOrderCardSaid :=
  Claim7.holds_tied_plain_at .later [] [.data, .handle] true Rows.floatOrderCard.stood.harness true
    floatOrder_said (fun _ h => by cases h) (by kernel_rfl) (fun _ h => by cases h) floatOrder_row_tie rfl ⟨rfl, rfl⟩ (by kernel_rfl) rfl
    (fun f fn hf hfn => by
      obtain rfl : f = 5 := Option.some.inj ((show Tryd.prog.funcNamed "outrigger/outriggerlaw05.FloatOrder" = some 5 by kernel_rfl).symm.trans hf) |>.symm
      obtain rfl : fn = Tryd.f5 := (Option.some.inj (Tryd.func5.symm.trans hfn)).symm
      exact ⟨by kernel_rfl, fun j t ht => by
        rw [Tryd.params5] at ht
        have ht' : t ∈ [22, 22, 22] := List.mem_of_getElem? (l := [22, 22, 22]) (i := j) (by simpa using ht)
        simp only [List.mem_cons, List.not_mem_nil, or_false] at ht'
        rcases ht' with rfl | rfl | rfl <;> exact (show Tryd.prog.wantsStandIn _ = false by kernel_rfl)⟩)
    (by kernel_rfl)
#print axioms floatOrder_holds
end Go.Proofs.YtioajdabiejhmaaDoor
