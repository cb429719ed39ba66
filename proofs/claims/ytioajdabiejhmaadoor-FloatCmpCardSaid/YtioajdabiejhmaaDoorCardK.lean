/- FloatCmp: whatever two words of 64 bits are handed in, the law returns true. The table of the library, and package errors own variable, that the row lists are tied to the program by its card. -/
import Derived.Test.YtioajdabiejhmaaDoorLaidF
import Derived.Test.YtioajdabiejhmaaDoorTie
import Derived.Test.YtioajdabiejhmaaDoorCards
import Derived.Test.YtioajdabiejhmaaDoorLawK
import Derived.SevenTiedAt
namespace Go.Proofs.YtioajdabiejhmaaDoor
open Go.ChangeShapes Go.WideShapes Go.ChangeAt Go.RowKit

set_option maxRecDepth 100000 in
theorem floatCmp_lifted (os : Os) (started : os.Started) (H : Type) (enc : TypeId × Value → H) :
    ReturnsInHanded {} Tryd.checked os 4 .any (fun w args => (Rows.floatCmpSpec.pre enc Tryd.prog Tryd.f4 [] false w args ∧ laidMetH Tryd.prog laidTwo w) ∧ sizedMet enc Tryd.prog Tryd.f4 (OpenSpec.ofChange Rows.floatCmpSpec) false w args)
      (Rows.floatCmpSpec.post enc Tryd.prog Tryd.f4 false true false false) := by
  refine returnsInHanded_of_change_and (C := Tryd.checked) (X := fun w _ => laidMetH Tryd.prog laidTwo w) (fun _ _ _ hh h => h.of_heap hh) Tryd.own started (by kernel_rfl) Tryd.func4
    (ChangeSpec.witness_shaped (enc := enc) (C := Tryd.checked) (os := os) (X := fun w _ => laidMetH Tryd.prog laidTwo w) false (World.doorLaid Tryd.prog 400 os) #[.int .u64 0, .int .u64 0] 8 rfl (World.shaped_of_RefB (by kernel_rfl) (by kernel_rfl)) (by kernel_rfl) (by kernel_rfl) (by kernel_rfl) (laidTwo_met os _)) ?_
  intro W base args ds gs before hval0 hW _ _ hL _
  have hval : ∀ (j : Nat) t v, Tryd.f4.params[j]? = some t → args[j]? = some v → Value.okWide Tryd.prog W .any base t v := hval0
  have hW' := hW
  obtain ⟨p, q, hA0, hV0, rfl, hfz, hnd⟩ := hW
  have hA : DataW.TrodAll enc Tryd.prog W 0 (fun _ => true) true Tryd.f4.params.toList args.toList ds p := hA0
  have hV : DataW.TrodVars enc Tryd.prog W (fun _ => true) [] gs q := hV0
  rw [Tryd.params4] at hA hval
  obtain ⟨v0, v1, d0, d1, p0, p1, rfl, rfl, rfl, h0, h1⟩ := trodAll_two hA
  obtain ⟨n0, rfl, rfl, rfl, wn0⟩ := open_int Tryd.underlying22 (hval 0 22 v0 rfl rfl) h0
  obtain ⟨u0, rfl⟩ : ∃ u : Nat, n0 = (u : Int) := ⟨n0.toNat, by have := word_of_wf wn0; omega⟩
  have bn0 : u0 < 18446744073709551616 := by have := word_of_wf wn0; omega
  obtain ⟨n1, rfl, rfl, rfl, wn1⟩ := open_int Tryd.underlying22 (hval 1 22 v1 rfl rfl) h1
  obtain ⟨u1, rfl⟩ : ∃ u : Nat, n1 = (u : Int) := ⟨n1.toNat, by have := word_of_wf wn1; omega⟩
  have bn1 : u1 < 18446744073709551616 := by have := word_of_wf wn1; omega
  obtain ⟨hT, hg⟩ := laidTwo_gives hL
  obtain ⟨rfl, rfl⟩ : gs = [] ∧ q = [] := by
    cases gs with
    | nil => exact ⟨rfl, hV⟩
    | cons g r => exact absurd hV (by intro h; cases h)
  clear hA0 hval0 hV0
  simp only [List.append_nil] at hW'
  refine (floatCmp_walk u0 u1 W bn0 bn1 hT hg).mono fun e W' ⟨he, hnx⟩ => ?_
  subst he
  exact ⟨_, rfl, _, _, _, [], _, [], hW', trodAll_mk1 (shut_bool Tryd.underlying4 _), trodAll_mk2 (shut_int Tryd.underlying22 wn0) (shut_int Tryd.underlying22 wn1), rfl, hnx.frame _, fun h => by cases h⟩

theorem floatCmp_said : Rows.FloatCmpSaid :=
  OpenClaim.holds_of_wide 4 Tryd.f4 rfl rfl rfl rfl rfl rfl rfl ⟨rfl, rfl, rfl, rfl, rfl⟩ rfl rfl rfl rfl rfl (by kernel_rfl) Tryd.func4 (by kernel_rfl)
    (of_decide_eq_true (by kernel_rfl)) (by unfold Func.isWrapper; rw [if_neg (of_decide_eq_false (by kernel_rfl))]; exact ⟨rfl, rfl⟩)
    (fun os started H enc _ => floatCmp_lifted os started H enc)

theorem floatCmp_holds : Rows.FloatCmpCardSaid :=
  Claim7.holds_tied_plain_at .later [] [.data, .handle] true Rows.floatCmpCard.stood.harness true
    floatCmp_said (fun _ h => by cases h) (by kernel_rfl) (fun _ h => by cases h) floatCmp_row_tie rfl ⟨rfl, rfl⟩ (by kernel_rfl) rfl
    (fun f fn hf hfn => by
      obtain rfl : f = 4 := Option.some.inj ((show Tryd.prog.funcNamed "outrigger/outriggerlaw05.FloatCmp" = some 4 by kernel_rfl).symm.trans hf) |>.symm
      obtain rfl : fn = Tryd.f4 := (Option.some.inj (Tryd.func4.symm.trans hfn)).symm
      exact ⟨by kernel_rfl, fun j t ht => by
        rw [Tryd.params4] at ht
        have ht' : t ∈ [22, 22] := List.mem_of_getElem? (l := [22, 22]) (i := j) (by simpa using ht)
        simp only [List.mem_cons, List.not_mem_nil, or_false] at ht'
        rcases ht' with rfl | rfl <;> exact (show Tryd.prog.wantsStandIn _ = false by kernel_rfl)⟩)
    (by kernel_rfl)
#print axioms floatCmp_holds
end Go.Proofs.YtioajdabiejhmaaDoor
