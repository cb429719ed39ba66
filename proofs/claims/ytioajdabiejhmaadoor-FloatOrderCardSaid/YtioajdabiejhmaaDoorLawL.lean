/- FloatOrder, the law's walk. -/
import Derived.Test.YtioajdabiejhmaaDoorLawK
namespace Go.Proofs.YtioajdabiejhmaaDoor
open Go.RowKit

/-- What Cmp tells of two, and the code of its error. -/
structure CmpTold (a b : Nat) (x : Int) (E : Value) (c : Int) : Prop where
  call : Hid (∀ w, Calls Tryd.prog 13 #[.int .u64 (a : Int), .int .u64 (b : Int)] w fun e w' => e = .returned (.tuple #[.int .i64 x, E]) ∧ Below w.heap.size w w')
  code : Hid (∀ w, ErrVar w → Calls Tryd.prog 10 #[E] w fun e w' => e = .returned (.int .i64 c) ∧ Below w.heap.size w w')
theorem cmp_told (a b : Nat) (ha : a < 18446744073709551616) (hb : b < 18446744073709551616) : ∃ x E c, CmpTold a b x E c ∧ 0 ≤ c ∧ c ≤ 1 ∧ ((fin a && fin b) = false → 1 ≤ c) := by
  by_cases h : (fin a && fin b) = false
  · exact ⟨_, _, 1, ⟨Lib.hid (fun w => (floatCmp_none a b _ _ ha hb rfl rfl h w).mono fun _ _ ⟨h1, h2⟩ => ⟨h1, same_below h2⟩), Lib.hid (fun w hg => code_hit 1 (by omega) (by omega) w hg)⟩, by omega, by omega, fun _ => by omega⟩
  · obtain ⟨fa, fb⟩ : fin a = true ∧ fin b = true := by revert h; cases fin a <;> cases fin b <;> simp
    exact ⟨_, _, 0, ⟨Lib.hid (fun w => floatCmp_any a b _ ha hb fa fb rfl w), Lib.hid (fun w _ => (code_nil w).mono fun _ _ ⟨h1, h2⟩ => ⟨h1, same_below h2⟩)⟩, by omega, by omega, fun h' => absurd h' h⟩
set_option maxHeartbeats 4000000 in
/-- Where one is none. -/
theorem floatOrder_none (a b c : Nat) (f g h : Bool) (w : World) (ha : a < 18446744073709551616) (hb : b < 18446744073709551616) (hc : c < 18446744073709551616) (hT : TabVar w) (hg : ErrVar w) (fa : fin a = f) (fb : fin b = g) (fc : fin c = h) (hn : (f && (g && h)) = false) :
    Calls Tryd.prog 5 #[.int .u64 (a : Int), .int .u64 (b : Int), .int .u64 (c : Int)] w fun e w' => e = .returned (.bool true) ∧ Below w.heap.size w w' := by
  have HA := Lib.hid (awake5_any w hT)
  have FA := Lib.hid (fun w => finite_any a f ha fa w)
  have FB := Lib.hid (fun w => finite_any b g hb fb w)
  have FC := Lib.hid (fun w => finite_any c h hc fc w)
  obtain ⟨x, E, c1, P1, l1, u1, n1⟩ := cmp_told a b ha hb
  obtain ⟨y, F, c2, P2, l2, u2, n2⟩ := cmp_told b c hb hc
  obtain ⟨z, G, c3, P3, l3, u3, n3⟩ := cmp_told a c ha hc
  obtain ⟨u, I, c4, P4, l4, u4, n4⟩ := cmp_told b a hb ha
  have hs : 0 < c1 + c2 + c3 := by
    rw [fa, fb] at n1
    rw [fb, fc] at n2
    revert n1 n2 hn
    cases f <;> cases g <;> cases h <;> simp <;> omega
  clear n1 n2 n3 n4 fa fb fc hT l4 u4
  by_cases hf : f = false
  · subst hf
    clear hn
    go_enter Tryd.func5, Tryd.ntmps5
    go_wp2_with fail
    refine (HA.out).mono ?_
    rintro e W1 ⟨rfl, hW⟩
    replace hg := hg.below hW
    go_wp2_with (first
    | (go_at_call 13; with_reducible refine (P1.call.out _).mono ?_; rintro e w' ⟨rfl, hb3⟩; replace hg := hg.below hb3; replace hW := below_next hW hb3; clear hb3)
    | (go_at_call 13; with_reducible refine (P2.call.out _).mono ?_; rintro e w' ⟨rfl, hb3⟩; replace hg := hg.below hb3; replace hW := below_next hW hb3; clear hb3)
    | (go_at_call 13; with_reducible refine (P3.call.out _).mono ?_; rintro e w' ⟨rfl, hb3⟩; replace hg := hg.below hb3; replace hW := below_next hW hb3; clear hb3)
    | (go_at_call 13; with_reducible refine (P4.call.out _).mono ?_; rintro e w' ⟨rfl, hb3⟩; replace hg := hg.below hb3; replace hW := below_next hW hb3; clear hb3)
    | (go_at_call 8; with_reducible refine (FA.out _).mono ?_; rintro e w' ⟨rfl, rfl⟩)
    | (go_at_call 8; with_reducible refine (FB.out _).mono ?_; rintro e w' ⟨rfl, rfl⟩)
    | (go_at_call 8; with_reducible refine (FC.out _).mono ?_; rintro e w' ⟨rfl, rfl⟩)
    | (go_at_call 10; with_reducible refine (P1.code.out _ hg).mono ?_; rintro e w' ⟨rfl, hb3⟩; replace hg := hg.below hb3; replace hW := below_next hW hb3; clear hb3)
    | (go_at_call 10; with_reducible refine (P2.code.out _ hg).mono ?_; rintro e w' ⟨rfl, hb3⟩; replace hg := hg.below hb3; replace hW := below_next hW hb3; clear hb3)
    | (go_at_call 10; with_reducible refine (P3.code.out _ hg).mono ?_; rintro e w' ⟨rfl, hb3⟩; replace hg := hg.below hb3; replace hW := below_next hW hb3; clear hb3))
    all_goals first
      | (exfalso; omega)
      | (go_ret
         refine ⟨congrArg (fun b => Ending.returned (Value.bool b)) (?_ : _ = true), hW⟩
         first
           | rfl
           | (exact decide_eq_true (by omega)))
  · obtain rfl : f = true := by simpa using hf
    clear hf
    by_cases hf : g = false
    · subst hf
      clear hn
      go_enter Tryd.func5, Tryd.ntmps5
      go_wp2_with fail
      refine (HA.out).mono ?_
      rintro e W1 ⟨rfl, hW⟩
      replace hg := hg.below hW
      go_wp2_with (first
      | (go_at_call 13; with_reducible refine (P1.call.out _).mono ?_; rintro e w' ⟨rfl, hb3⟩; replace hg := hg.below hb3; replace hW := below_next hW hb3; clear hb3)
      | (go_at_call 13; with_reducible refine (P2.call.out _).mono ?_; rintro e w' ⟨rfl, hb3⟩; replace hg := hg.below hb3; replace hW := below_next hW hb3; clear hb3)
      | (go_at_call 13; with_reducible refine (P3.call.out _).mono ?_; rintro e w' ⟨rfl, hb3⟩; replace hg := hg.below hb3; replace hW := below_next hW hb3; clear hb3)
      | (go_at_call 13; with_reducible refine (P4.call.out _).mono ?_; rintro e w' ⟨rfl, hb3⟩; replace hg := hg.below hb3; replace hW := below_next hW hb3; clear hb3)
      | (go_at_call 8; with_reducible refine (FA.out _).mono ?_; rintro e w' ⟨rfl, rfl⟩)
      | (go_at_call 8; with_reducible refine (FB.out _).mono ?_; rintro e w' ⟨rfl, rfl⟩)
      | (go_at_call 8; with_reducible refine (FC.out _).mono ?_; rintro e w' ⟨rfl, rfl⟩)
      | (go_at_call 10; with_reducible refine (P1.code.out _ hg).mono ?_; rintro e w' ⟨rfl, hb3⟩; replace hg := hg.below hb3; replace hW := below_next hW hb3; clear hb3)
      | (go_at_call 10; with_reducible refine (P2.code.out _ hg).mono ?_; rintro e w' ⟨rfl, hb3⟩; replace hg := hg.below hb3; replace hW := below_next hW hb3; clear hb3)
      | (go_at_call 10; with_reducible refine (P3.code.out _ hg).mono ?_; rintro e w' ⟨rfl, hb3⟩; replace hg := hg.below hb3; replace hW := below_next hW hb3; clear hb3))
      all_goals first
        | (exfalso; omega)
        | (go_ret
           refine ⟨congrArg (fun b => Ending.returned (Value.bool b)) (?_ : _ = true), hW⟩
           first
             | rfl
             | (exact decide_eq_true (by omega)))
    · obtain rfl : g = true := by simpa using hf
      obtain rfl : h = false := by simpa using hn
      clear hf hn
      go_enter Tryd.func5, Tryd.ntmps5
      go_wp2_with fail
      refine (HA.out).mono ?_
      rintro e W1 ⟨rfl, hW⟩
      replace hg := hg.below hW
      go_wp2_with (first
      | (go_at_call 13; with_reducible refine (P1.call.out _).mono ?_; rintro e w' ⟨rfl, hb3⟩; replace hg := hg.below hb3; replace hW := below_next hW hb3; clear hb3)
      | (go_at_call 13; with_reducible refine (P2.call.out _).mono ?_; rintro e w' ⟨rfl, hb3⟩; replace hg := hg.below hb3; replace hW := below_next hW hb3; clear hb3)
      | (go_at_call 13; with_reducible refine (P3.call.out _).mono ?_; rintro e w' ⟨rfl, hb3⟩; replace hg := hg.below hb3; replace hW := below_next hW hb3; clear hb3)
      | (go_at_call 13; with_reducible refine (P4.call.out _).mono ?_; rintro e w' ⟨rfl, hb3⟩; replace hg := hg.below hb3; replace hW := below_next hW hb3; clear hb3)
      | (go_at_call 8; with_reducible refine (FA.out _).mono ?_; rintro e w' ⟨rfl, rfl⟩)
      | (go_at_call 8; with_reducible refine (FB.out _).mono ?_; rintro e w' ⟨rfl, rfl⟩)
      | (go_at_call 8; with_reducible refine (FC.out _).mono ?_; rintro e w' ⟨rfl, rfl⟩)
      | (go_at_call 10; with_reducible refine (P1.code.out _ hg).mono ?_; rintro e w' ⟨rfl, hb3⟩; replace hg := hg.below hb3; replace hW := below_next hW hb3; clear hb3)
      | (go_at_call 10; with_reducible refine (P2.code.out _ hg).mono ?_; rintro e w' ⟨rfl, hb3⟩; replace hg := hg.below hb3; replace hW := below_next hW hb3; clear hb3)
      | (go_at_call 10; with_reducible refine (P3.code.out _ hg).mono ?_; rintro e w' ⟨rfl, hb3⟩; replace hg := hg.below hb3; replace hW := below_next hW hb3; clear hb3))
      all_goals first
        | (exfalso; omega)
        | (go_ret
           refine ⟨congrArg (fun b => Ending.returned (Value.bool b)) (?_ : _ = true), hW⟩
           first
             | rfl
             | (exact decide_eq_true (by omega)))
theorem floatOrder_walk (a b c : Nat) (w : World) (ha : a < 18446744073709551616) (hb : b < 18446744073709551616) (hc : c < 18446744073709551616) (hT : TabVar w) (hg : ErrVar w) :
    Calls Tryd.prog 5 #[.int .u64 (a : Int), .int .u64 (b : Int), .int .u64 (c : Int)] w fun e w' => e = .returned (.bool true) ∧ Below w.heap.size w w' := by
  by_cases h : (fin a && (fin b && fin c)) = false
  · exact floatOrder_none a b c _ _ _ w ha hb hc hT hg rfl rfl rfl h
  · obtain ⟨fa, fb, fc⟩ : fin a = true ∧ fin b = true ∧ fin c = true := by revert h; cases fin a <;> cases fin b <;> cases fin c <;> simp
    exact floatOrder_fin a b c w ha hb hc hT fa fb fc
end Go.Proofs.YtioajdabiejhmaaDoor
