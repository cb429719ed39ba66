/- FloatCmp and FloatOrder, the laws' walks: any two floats are compared as the numbers that they are, in one order. -/
import Derived.Test.YtioajdabiejhmaaDoorLawJ
namespace Go.Proofs.YtioajdabiejhmaaDoor
open Go.RowKit

theorem fZ_len (b : Nat) : (digs 65536 (fZ b).natAbs).length ≤ 800000 := by
  obtain ⟨j, hj1, hj2⟩ : ∃ j : Nat, 4000 ≤ j ∧ j ≤ 800000 := ⟨4000, Nat.le_refl _, by omega⟩
  have h1 := fM_lt b
  have h2 := fX_lt b
  unfold P52 at h1
  have h3 := (digs_length_le (β := 65536) (by omega) (fZ b).natAbs j).2 (by
    unfold fZ fV
    rw [wv_abs, show (65536 : Nat) = 2 ^ 16 by rfl, ← Nat.pow_mul]
    exact pow_room (by omega) (by omega) hj1)
  omega

set_option maxHeartbeats 4000000 in
theorem floatCmp_walk (a b : Nat) (w : World) (ha : a < 18446744073709551616) (hb : b < 18446744073709551616) (hT : TabVar w) (hg : ErrVar w) :
    Calls Tryd.prog 4 #[.int .u64 (a : Int), .int .u64 (b : Int)] w fun e w' => e = .returned (.bool true) ∧ Below w.heap.size w w' := by
  have HA := Lib.hid (awake5_any w hT)
  obtain ⟨f, hf⟩ : ∃ f, fin a = f := ⟨_, rfl⟩
  obtain ⟨g, hg'⟩ : ∃ g, fin b = g := ⟨_, rfl⟩
  have HF := Lib.hid (fun w => refFinite_is a f ha hf w)
  have HG := Lib.hid (fun w => refFinite_is b g hb hg' w)
  clear hT
  by_cases hfg : (f && g) = false
  · have HC := Lib.hid (fun w => floatCmp_none a b f g ha hb hf hg' hfg w)
    clear hf hg'
    cases f
    · clear hfg
      go_enter Tryd.func4, Tryd.ntmps4
      go_wp2_with fail
      refine (HA.out).mono ?_
      rintro e W1 ⟨rfl, hW⟩
      replace hg := hg.below hW
      go_wp2_with (first
        | (go_at_call 13; with_reducible refine (HC.out _).mono ?_; rintro e w' ⟨rfl, rfl⟩)
        | (go_at_call 9; with_reducible refine (HF.out _).mono ?_; rintro e w' ⟨rfl, hb3⟩; replace hg := hg.below hb3; replace hW := below_next hW hb3; clear hb3)
        | (go_at_call 10; with_reducible refine (code_hit 1 (by omega) (by omega) _ hg).mono ?_; rintro e w' ⟨rfl, hb3⟩; replace hW := below_next hW hb3; clear hb3 hg))
      go_ret
      exact ⟨rfl, hW⟩
    · obtain rfl : g = false := by simpa using hfg
      clear hfg
      go_enter Tryd.func4, Tryd.ntmps4
      go_wp2_with fail
      refine (HA.out).mono ?_
      rintro e W1 ⟨rfl, hW⟩
      replace hg := hg.below hW
      go_wp2_with (first
        | (go_at_call 13; with_reducible refine (HC.out _).mono ?_; rintro e w' ⟨rfl, rfl⟩)
        | (go_at_call 9; with_reducible refine (HF.out _).mono ?_; rintro e w' ⟨rfl, hb3⟩; replace hg := hg.below hb3; replace hW := below_next hW hb3; clear hb3)
        | (go_at_call 9; with_reducible refine (HG.out _).mono ?_; rintro e w' ⟨rfl, hb3⟩; replace hg := hg.below hb3; replace hW := below_next hW hb3; clear hb3)
        | (go_at_call 10; with_reducible refine (code_hit 1 (by omega) (by omega) _ hg).mono ?_; rintro e w' ⟨rfl, hb3⟩; replace hW := below_next hW hb3; clear hb3 hg))
      go_ret
      exact ⟨rfl, hW⟩
  · obtain ⟨rfl, rfl⟩ : f = true ∧ g = true := by revert hfg; cases f <;> cases g <;> simp
    clear hfg hg
    obtain ⟨s, hs⟩ : ∃ s, (fZ a - fZ b).sign = s := ⟨_, rfl⟩
    have HC := Lib.hid (fun w => floatCmp_any a b s ha hb hf hg' (by rw [fK_sign]; exact hs) w)
    have HM := Lib.hid (fun w => refNum_any a ha w)
    have HN := Lib.hid (fun w => refNum_any b hb w)
    have lA := fZ_len a
    have lB := fZ_len b
    obtain ⟨x, hx⟩ : ∃ x, fZ a = x := ⟨_, rfl⟩
    obtain ⟨y, hy⟩ : ∃ y, fZ b = y := ⟨_, rfl⟩
    rw [hx] at hs lA HM
    rw [hy] at hs lB HN
    have HS := Lib.hid hs
    clear hf hg' hx hy hs
    go_enter Tryd.func4, Tryd.ntmps4
    go_wp2_with fail
    refine (HA.out).mono ?_
    rintro e W1 ⟨rfl, hW⟩
    go_wp2_with (first
      | (go_at_call 13; with_reducible refine (HC.out _).mono ?_; rintro e w' ⟨rfl, hb3⟩; replace hW := below_next hW hb3; clear hb3)
      | (go_at_call 9; with_reducible refine (HF.out _).mono ?_; rintro e w' ⟨rfl, hb3⟩; replace hW := below_next hW hb3; clear hb3)
      | (go_at_call 9; with_reducible refine (HG.out _).mono ?_; rintro e w' ⟨rfl, hb3⟩; replace hW := below_next hW hb3; clear hb3))
    refine (HM.out _).mono ?_
    rintro e W2 ⟨v1, rfl, p1, hb3⟩
    replace hW := below_next hW hb3
    clear hb3
    go_wp2_with fail
    refine (HN.out _).mono ?_
    rintro e W3 ⟨v2, rfl, p2, hb3⟩
    replace hW := below_next hW hb3
    replace p1 := p1.next hb3
    clear hb3
    go_wp2_with fail
    refine (refIntCmp_any _ _ _ _ _ p1 p2 lA lB).mono ?_
    rw [HS.out]
    rintro e W4 ⟨rfl, hb3⟩
    replace hW := below_next hW hb3
    clear hb3
    go_wp2
    go_ret
    exact ⟨rfl, hW⟩

theorem order_facts (k l m : Int) : (k - l).sign = -(l - k).sign ∧ ((k - l).sign < 0 ∨ (l - m).sign < 0 ∨ 0 ≤ (k - m).sign) ∧ (0 < (k - l).sign ∨ 0 < (l - m).sign ∨ (k - m).sign ≤ 0) := by
  have h1 := sign_cases (k - l)
  have h2 := sign_cases (l - k)
  have h3 := sign_cases (l - m)
  have h4 := sign_cases (k - m)
  omega
theorem norm_same {a b na nb : Nat} (ha : a < 18446744073709551616) (hb : b < 18446744073709551616) (h1 : (if a = 9223372036854775808 then 0 else a) = na) (h2 : (if b = 9223372036854775808 then 0 else b) = nb) :
    ((fK a - fK b).sign = 0) ↔ ((na : Int) = (nb : Int)) := by
  have h3 := sign_cases (fK a - fK b)
  have key : fK a = fK b ↔ na = nb := by
    subst h1 h2
    unfold fK fS fR P63
    by_cases ca : 9223372036854775808 ≤ a <;> by_cases cb : 9223372036854775808 ≤ b
    · rw [decide_eq_true ca, decide_eq_true cb, wv_true, wv_true]; split <;> split <;> omega
    · rw [decide_eq_true ca, decide_eq_false cb, wv_true, wv_false]; split <;> split <;> omega
    · rw [decide_eq_false ca, decide_eq_true cb, wv_true, wv_false]; split <;> split <;> omega
    · rw [decide_eq_false ca, decide_eq_false cb, wv_false, wv_false]; split <;> split <;> omega
  constructor
  · intro h; have : fK a = fK b := by omega
    have := key.1 this
    omega
  · intro h; have : fK a = fK b := key.2 (by omega)
    omega
set_option maxHeartbeats 4000000 in
/-- Where all three are finite. -/
theorem floatOrder_fin (a b c : Nat) (w : World) (ha : a < 18446744073709551616) (hb : b < 18446744073709551616) (hc : c < 18446744073709551616) (hT : TabVar w) (fa : fin a = true) (fb : fin b = true) (fc : fin c = true) :
    Calls Tryd.prog 5 #[.int .u64 (a : Int), .int .u64 (b : Int), .int .u64 (c : Int)] w fun e w' => e = .returned (.bool true) ∧ Below w.heap.size w w' := by
  have HA := Lib.hid (awake5_any w hT)
  obtain ⟨na, hna⟩ : ∃ n, (if a = 9223372036854775808 then 0 else a) = n := ⟨_, rfl⟩
  obtain ⟨nb, hnb⟩ : ∃ n, (if b = 9223372036854775808 then 0 else b) = n := ⟨_, rfl⟩
  have KN := norm_same ha hb hna hnb
  have NA := Lib.hid (fun w => norm_any a na ha hna w)
  have NB := Lib.hid (fun w => norm_any b nb hb hnb w)
  have FA := Lib.hid (fun w => finite_any a true ha fa w)
  have FB := Lib.hid (fun w => finite_any b true hb fb w)
  have FC := Lib.hid (fun w => finite_any c true hc fc w)
  obtain ⟨k, hk⟩ : ∃ k, fK a = k := ⟨_, rfl⟩
  obtain ⟨l, hl⟩ : ∃ k, fK b = k := ⟨_, rfl⟩
  obtain ⟨m, hm⟩ : ∃ k, fK c = k := ⟨_, rfl⟩
  rw [hk, hl] at KN
  obtain ⟨o1, o2, o3⟩ := order_facts k l m
  obtain ⟨x, hx⟩ : ∃ x, (k - l).sign = x := ⟨_, rfl⟩
  obtain ⟨y, hy⟩ : ∃ x, (l - m).sign = x := ⟨_, rfl⟩
  obtain ⟨z, hz⟩ : ∃ x, (k - m).sign = x := ⟨_, rfl⟩
  obtain ⟨u, hu⟩ : ∃ x, (l - k).sign = x := ⟨_, rfl⟩
  have C1 := Lib.hid (fun w => floatCmp_any a b x ha hb fa fb (by rw [hk, hl]; exact hx) w)
  have C2 := Lib.hid (fun w => floatCmp_any b c y hb hc fb fc (by rw [hl, hm]; exact hy) w)
  have C3 := Lib.hid (fun w => floatCmp_any a c z ha hc fa fc (by rw [hk, hm]; exact hz) w)
  have C4 := Lib.hid (fun w => floatCmp_any b a u hb ha fb fa (by rw [hk, hl]; exact hu) w)
  have bx : -1 ≤ x ∧ x ≤ 1 := by rw [← hx]; exact sign_bd _
  have bu : -1 ≤ u ∧ u ≤ 1 := by rw [← hu]; exact sign_bd _
  rw [hx, hu] at o1
  rw [hx, hy, hz] at o2 o3
  rw [hx] at KN
  have KN1 : Hid ((x == 0) = ((na : Int) == (nb : Int))) := Lib.hid (by
    by_cases h : x = 0
    · rw [h, KN.1 h]; simp
    · have h2 : ¬ (na : Int) = nb := fun e => h (KN.2 e)
      rw [beq_eq_false_iff_ne.2 h, beq_eq_false_iff_ne.2 h2])
  clear hna hnb hk hl hm hx hy hz hu fa fb fc hT KN
  subst o1
  go_enter Tryd.func5, Tryd.ntmps5
  go_wp2_with fail
  refine (HA.out).mono ?_
  rintro e W1 ⟨rfl, hW⟩
  go_wp2_with (first
    | (go_at_call 13; with_reducible refine (C1.out _).mono ?_; rintro e w' ⟨rfl, hb3⟩; replace hW := below_next hW hb3; clear hb3)
    | (go_at_call 13; with_reducible refine (C2.out _).mono ?_; rintro e w' ⟨rfl, hb3⟩; replace hW := below_next hW hb3; clear hb3)
    | (go_at_call 13; with_reducible refine (C3.out _).mono ?_; rintro e w' ⟨rfl, hb3⟩; replace hW := below_next hW hb3; clear hb3)
    | (go_at_call 13; with_reducible refine (C4.out _).mono ?_; rintro e w' ⟨rfl, hb3⟩; replace hW := below_next hW hb3; clear hb3)
    | (go_at_call 8; with_reducible refine (FA.out _).mono ?_; rintro e w' ⟨rfl, rfl⟩)
    | (go_at_call 8; with_reducible refine (FB.out _).mono ?_; rintro e w' ⟨rfl, rfl⟩)
    | (go_at_call 8; with_reducible refine (FC.out _).mono ?_; rintro e w' ⟨rfl, rfl⟩)
    | (go_at_call 11; with_reducible refine (NA.out _).mono ?_; rintro e w' ⟨rfl, rfl⟩)
    | (go_at_call 11; with_reducible refine (NB.out _).mono ?_; rintro e w' ⟨rfl, rfl⟩))
  all_goals first
    | (exfalso; omega)
    | (exfalso
       have hq := ‹some (if u < 0 then Value.bool true else undef) = some (Value.bool _)›
       rw [if_pos (by omega)] at hq
       injection hq with hq
       injection hq with hq
       exact absurd hq.symm (by assumption))
    | (go_ret
       refine ⟨congrArg (fun b => Ending.returned (Value.bool b)) (?_ : _ = true), hW⟩
       (try rw [KN1.out])
       first
         | (simp; done)
         | (simp; omega))
end Go.Proofs.YtioajdabiejhmaaDoor
