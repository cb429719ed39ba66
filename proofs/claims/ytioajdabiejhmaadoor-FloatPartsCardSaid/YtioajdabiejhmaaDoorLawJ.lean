/- FloatParts, the law's walk: any bits are the number that the document says, or none. The statements of layer 5 first ask for answers that the document fixes. -/
import Derived.Test.YtioajdabiejhmaaDoorFltN
import Derived.Test.YtioajdabiejhmaaDoorAs
namespace Go.Proofs.YtioajdabiejhmaaDoor
open Go.RowKit

theorem drewN_below {w w' : World} (h : ∃ n, w' = w.drewN n) : Below w.heap.size w w' := by
  obtain ⟨n, rfl⟩ := h
  exact below_drewN (Below.refl _ _) n
theorem refFinite_is (b : Nat) (f : Bool) (hb : b < 18446744073709551616) (hf : fin b = f) (w : World) :
    Calls Tryd.prog 9 #[.int .u64 (b : Int)] w fun e w' => e = .returned (.bool f) ∧ Below w.heap.size w w' :=
  (refFinite_any b f hb hf w).mono fun _ _ ⟨h1, h2⟩ => ⟨h1, drewN_below h2⟩
theorem same_below {w w' : World} (h : w = w') : Below w.heap.size w w' := by subst h; exact Below.refl _ _

set_option maxHeartbeats 2000000 in
theorem awake5_any (w : World) (hT : TabVar w) : Calls Tryd.prog 6 #[] w fun e w' => e = .returned (.bool true) ∧ Below w.heap.size w w' := by
  have H1 := Lib.hid (floatParts_any 4609434218613702656 3 51 false (-1) (by omega) (by decide) (by decide) (by omega) (by decide) (by decide) w hT)
  have H2 := Lib.hid (fun w => floatCmp_any 9223372036854775808 0 0 (by omega) (by omega) (by decide) (by decide) (by decide) w)
  have H3 := Lib.hid (fun w => finite_any 9218868437227405312 false (by omega) (by decide) w)
  clear hT
  go_enter Tryd.func6, Tryd.ntmps6
  go_wp2_with fail
  refine (H1.out).mono ?_
  rintro e W1 ⟨rfl, hW⟩
  go_wp2_with fail
  refine (H2.out _).mono ?_
  rintro e W2 ⟨rfl, hb⟩
  replace hW := below_next hW hb
  clear hb
  go_wp2_with (go_at_call 8; refine (H3.out _).mono ?_; rintro e w' ⟨rfl, rfl⟩)
  go_ret
  exact ⟨rfl, hW⟩

set_option maxHeartbeats 4000000 in
theorem floatParts_walk (b : Nat) (w : World) (hb : b < 18446744073709551616) (hT : TabVar w) (hg : ErrVar w) :
    Calls Tryd.prog 3 #[.int .u64 (b : Int)] w fun e w' => e = .returned (.bool true) ∧ Below w.heap.size w w' := by
  have HA := Lib.hid (awake5_any w hT)
  by_cases hf : fin b = false
  · have HP := Lib.hid (fun w => floatParts_none b hb hf w)
    have HF := Lib.hid (fun w => finite_any b false hb hf w)
    have HR := Lib.hid (fun w => refFinite_is b false hb hf w)
    have hne : ¬ b = 9223372036854775808 := by rintro rfl; revert hf; decide
    have HN := Lib.hid (fun w => norm_any b b hb (if_neg hne) w)
    clear hf hne hT
    go_enter Tryd.func3, Tryd.ntmps3
    go_wp2_with fail
    refine (HA.out).mono ?_
    rintro e W1 ⟨rfl, hW⟩
    replace hg := hg.below hW
    go_wp2_with fail
    refine (HP.out _).mono ?_
    rintro e W2 ⟨rfl, hb2⟩
    replace hg := hg.below hb2
    replace hW := below_next hW hb2
    clear hb2
    go_wp2_with (first
      | (go_at_call 8; with_reducible refine (HF.out _).mono ?_; rintro e w' ⟨rfl, rfl⟩)
      | (go_at_call 9; with_reducible refine (HR.out _).mono ?_; rintro e w' ⟨rfl, hb3⟩; replace hg := hg.below hb3; replace hW := below_next hW hb3; clear hb3)
      | (go_at_call 11; with_reducible refine (HN.out _).mono ?_; rintro e w' ⟨rfl, rfl⟩)
      | (go_at_call 10; with_reducible refine (code_hit 1 (by omega) (by omega) _ hg).mono ?_; rintro e w' ⟨rfl, hb3⟩; replace hW := below_next hW hb3; clear hb3 hg))
    go_ret
    exact ⟨rfl, hW⟩
  · replace hf : fin b = true := by revert hf; cases fin b <;> simp
    have HF := Lib.hid (fun w => finite_any b true hb hf w)
    have HR := Lib.hid (fun w => refFinite_is b true hb hf w)
    by_cases h0 : fM b = 0
    · have HP := Lib.hid (fun w => floatParts_zero b hb h0 w)
      have HQ := Lib.hid (fun w => refParts_zero b hb h0 w)
      have hn : (if b = 9223372036854775808 then 0 else b) = 0 := by
        have := fR_is b
        have h1 := fE_lt b
        unfold fM at h0
        unfold fR P63 at this
        have h2 : fE b = 0 ∧ fF b = 0 := by
          split at h0
          · exact ⟨by assumption, h0⟩
          · unfold P52 at h0; omega
        rw [h2.1, h2.2] at this
        split <;> omega
      have HN := Lib.hid (fun w => norm_any b 0 hb hn w)
      clear hf h0 hn hT
      go_enter Tryd.func3, Tryd.ntmps3
      go_wp2_with fail
      refine (HA.out).mono ?_
      rintro e W1 ⟨rfl, hW⟩
      replace hg := hg.below hW
      go_wp2_with fail
      refine (HP.out _).mono ?_
      rintro e W2 ⟨rfl, hb2⟩
      replace hg := hg.below hb2
      replace hW := below_next hW hb2
      clear hb2
      go_wp2_with (first
      | (go_at_call 8; with_reducible refine (HF.out _).mono ?_; rintro e w' ⟨rfl, rfl⟩)
      | (go_at_call 9; with_reducible refine (HR.out _).mono ?_; rintro e w' ⟨rfl, hb3⟩; replace hg := hg.below hb3; replace hW := below_next hW hb3; clear hb3)
      | (go_at_call 11; with_reducible refine (HN.out _).mono ?_; rintro e w' ⟨rfl, rfl⟩)
      | (go_at_call 10; with_reducible refine (code_hit 1 (by omega) (by omega) _ hg).mono ?_; rintro e w' ⟨rfl, hb3⟩; replace hW := below_next hW hb3; clear hb3 hg)
      | (go_at_call 12; with_reducible refine (HQ.out _).mono ?_; rintro e w' ⟨rfl, hb3⟩; replace hg := hg.below hb3; replace hW := below_next hW hb3; clear hb3))
      go_ret
      exact ⟨rfl, hW⟩
    · obtain ⟨t, m, h1, h2⟩ := odd_part (fM b) (by omega)
      have hmz : ¬ (m : Int) = 0 := by omega
      obtain ⟨s, hs⟩ : ∃ s, fS b = s := ⟨_, rfl⟩
      obtain ⟨x, hx⟩ : ∃ x, (fX b : Int) - 1074 + t = x := ⟨_, rfl⟩
      have HQ := Lib.hid (fun w => refParts_any b m t s x hb h1 h2 hs hx w)
      have hne : ¬ b = 9223372036854775808 := by rintro rfl; revert h0; decide
      have HN := Lib.hid (fun w => norm_any b b hb (if_neg hne) w)
      have HP := Lib.hid (fun w hT => floatParts_any b m t s x hb hf h1 h2 hs hx w hT)
      clear hf h0 h1 h2 hs hx hne
      go_enter Tryd.func3, Tryd.ntmps3
      go_wp2_with fail
      refine (HA.out).mono ?_
      rintro e W1 ⟨rfl, hW⟩
      replace hg := hg.below hW
      go_wp2_with fail
      refine (HP.out _ (hT.below hW)).mono ?_
      rintro e W2 ⟨rfl, hb2⟩
      replace hg := hg.below hb2
      replace hW := below_next hW hb2
      clear hb2 hT
      go_wp2_with (first
      | (go_at_call 8; with_reducible refine (HF.out _).mono ?_; rintro e w' ⟨rfl, rfl⟩)
      | (go_at_call 9; with_reducible refine (HR.out _).mono ?_; rintro e w' ⟨rfl, hb3⟩; replace hg := hg.below hb3; replace hW := below_next hW hb3; clear hb3)
      | (go_at_call 11; with_reducible refine (HN.out _).mono ?_; rintro e w' ⟨rfl, rfl⟩)
      | (go_at_call 10; with_reducible refine (code_hit 1 (by omega) (by omega) _ hg).mono ?_; rintro e w' ⟨rfl, hb3⟩; replace hW := below_next hW hb3; clear hb3 hg)
      | (go_at_call 12; with_reducible refine (HQ.out _).mono ?_; rintro e w' ⟨rfl, hb3⟩; replace hg := hg.below hb3; replace hW := below_next hW hb3; clear hb3))
      go_ret
      exact ⟨rfl, hW⟩
end Go.Proofs.YtioajdabiejhmaaDoor
