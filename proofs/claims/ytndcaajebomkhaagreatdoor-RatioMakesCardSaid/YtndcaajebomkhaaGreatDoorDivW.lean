/- math/bits.Div64 of any two words by a word that is greater than the higher one: the library's own text, walked. -/
import Derived.Test.YtndcaajebomkhaaGreatDoorNatC
import Derived.Test.YtndcaajebomkhaaGreatDoorLibB
import Derived.Test.YtndcaajebomkhaaGreatDoorDiv
import Derived.Laws.BitsAllLaws
import Derived.Deep.CutBlock
import Derived.Deep.QuietTactic
import Derived.BigQuiet
namespace Go.Proofs.YtndcaajebomkhaaGreatDoor
open Go.RowKit

theorem wrap64_nat (n : Nat) (h : n < 18446744073709551616) : IntKind.u64.wrap (n : Int) = (n : Int) := by
  simp [IntKind.wrap, IntKind.signed, IntKind.bits]; omega
theorem wrap64_mod (n : Int) : IntKind.u64.wrap n = n % 18446744073709551616 := by
  simp [IntKind.wrap, IntKind.signed, IntKind.bits]
theorem wrap64_mul (a b : Nat) (h : a * b < 18446744073709551616) : IntKind.u64.wrap ((a : Int) * b) = ((a * b : Nat) : Int) := by
  rw [← Int.natCast_mul]; exact wrap64_nat _ h

set_option maxHeartbeats 400000 in
theorem div64_small (lo y : Nat) (hy : 0 < y) (hlo : lo < 18446744073709551616) (w : World) :
    Calls Tryz.prog 84 #[.int .u64 0, .int .u64 (lo : Int), .int .u64 (y : Int)] w fun e w' => e = .returned (.tuple #[.int .u64 ((lo / y : Nat) : Int), .int .u64 ((lo % y : Nat) : Int)]) ∧ ∃ n, w' = w.drewN n := by
  have e1 : IntKind.u64.wrap ((lo : Int) / (y : Int)) = ((lo / y : Nat) : Int) := by
    rw [← Int.natCast_ediv]; exact wrap64_nat _ (Nat.lt_of_le_of_lt (Nat.div_le_self _ _) hlo)
  have e2 : (lo : Int) % (y : Int) = ((lo % y : Nat) : Int) := (Int.natCast_emod _ _).symm
  obtain ⟨a, ha⟩ : ∃ a, a = lo / y := ⟨_, rfl⟩
  obtain ⟨b, hb⟩ : ∃ b, b = lo % y := ⟨_, rfl⟩
  rw [← ha] at e1 ⊢
  rw [← hb] at e2 ⊢
  clear ha hb
  go_enter Tryz.func84, Tryz.ntmps84
  go_wp2_with fail
  go_quiet (fail)
  go_wp2
  go_ret2
  refine ⟨?_, _, rfl⟩
  show Ending.returned (.tuple #[.int .u64 (a : Int), .int .u64 ((lo : Int) % (y : Int))]) = _
  rw [e2]

/-- What one round of the loop does, and what its tests are. -/
theorem half_body {u u1 Y yn1 yn0 q r Q : Nat} (hy : Y = yn1 * 4294967296 + yn0) (h0 : yn0 < 4294967296) (h1 : yn1 < 4294967296) (hu1 : u1 < 4294967296) (hu : u < Y) (hQ : Q = (u * 4294967296 + u1) / Y)
    (hr : r < 4294967296) (hq : q ≤ 4294967297) (h : HalfInv u u1 Y yn1 yn0 q r) :
    (q < 4294967296 → IntKind.u64.wrap ((q : Int) * yn0) = ((q * yn0 : Nat) : Int) ∧ IntKind.u64.wrap (IntKind.u64.wrap (4294967296 * (r : Int)) + u1) = ((4294967296 * r + u1 : Nat) : Int)) ∧
    (¬ 4294967296 * r + u1 < q * yn0 → q = Q) ∧
    (4294967296 ≤ q ∨ 4294967296 * r + u1 < q * yn0 → ∃ q' r' : Nat, IntKind.u64.wrap ((q : Int) - 1) = (q' : Int) ∧ IntKind.u64.wrap ((r : Int) + yn1) = (r' : Int) ∧ HalfInv u u1 Y yn1 yn0 q' r' ∧ q' < q ∧ r' < 8589934592) := by
  have hY0 : 0 < Y := by omega
  refine ⟨fun hq1 => ⟨wrap64_mul _ _ ?_, ?_⟩, fun hn => ?_, fun hor => ?_⟩
  · have a1 : q * yn0 ≤ 4294967296 * yn0 := Nat.mul_le_mul_right _ (by omega)
    omega
  · rw [wrap64_mod, wrap64_mod]; omega
  · rw [half_test hy h] at hn
    rw [hQ]; exact half_eq hY0 (by omega) h.over
  · have hlt : Q < q := by
      rcases hor with ho | ho
      · have := half_small hu hu1
        rw [hQ]; exact Nat.lt_of_lt_of_le this ho
      · rw [hQ]; exact half_lt hY0 ((half_test hy h).1 ho)
    refine ⟨q - 1, r + yn1, ?_, ?_, half_less hy h (by rw [← hQ]; exact hlt), by omega, by omega⟩
    · rw [wrap64_mod]; omega
    · rw [wrap64_mod]; omega
theorem half_break {u u1 Y yn1 yn0 q r Q : Nat} (hy : Y = yn1 * 4294967296 + yn0) (h0 : yn0 < 4294967296) (h1 : 0 < yn1) (hQ : Q = (u * 4294967296 + u1) / Y) (h : HalfInv u u1 Y yn1 yn0 q r)
    (hr : 4294967296 ≤ r) (hq : q ≤ 4294967296) : Q = q := by
  have hY0 : 0 < Y := by omega
  rw [hQ]; exact (half_eq hY0 (half_out hy h0 h hr hq) h.over).symm

set_option maxRecDepth 100000 in
set_option maxHeartbeats 4000000 in
theorem div64_main (hi lo y s Y yn1 yn0 u L u1 u0 q15 r15 Q1 v q18 r18 Q0 quo rem : Nat) (h0 : 0 < hi) (hy : hi < y) (w : World) (hs : s < 64) (hyn1p : 0 < yn1) (hyn1 : yn1 < 4294967296) (hyn0 : yn0 < 4294967296)
    (hY : Y = yn1 * 4294967296 + yn0) (hu_15 : u < Y) (hu1_15 : u1 < 4294967296) (hu_18 : v < Y) (hu1_18 : u0 < 4294967296)
    (eY : IntKind.u64.wrap ((y : Int) * 2 ^ s) = (Y : Int)) (eY1 : (Y : Int) / 4294967296 = yn1) (eY0 : bits .and .u64 (Y : Int) 4294967295 = (yn0 : Int))
    (eU : bits .or .u64 (IntKind.u64.wrap ((hi : Int) * 2 ^ s)) ((lo : Int) / 2 ^ (64 - s)) = (u : Int))
    (eL : IntKind.u64.wrap ((lo : Int) * 2 ^ s) = (L : Int)) (eL1 : (L : Int) / 4294967296 = u1) (eL0 : bits .and .u64 (L : Int) 4294967295 = (u0 : Int))
    (eq15 : IntKind.u64.wrap ((u : Int) / (yn1 : Int)) = (q15 : Int)) (er15 : IntKind.u64.wrap ((u : Int) - IntKind.u64.wrap ((q15 : Int) * yn1)) = (r15 : Int)) (hr15 : r15 < 4294967296) (hq15 : q15 ≤ 4294967297)
    (HI15 : Hid (HalfInv u u1 Y yn1 yn0 q15 r15)) (HQ15 : Hid (Q1 = (u * 4294967296 + u1) / Y))
    (ev : IntKind.u64.wrap (IntKind.u64.wrap (IntKind.u64.wrap ((u : Int) * 4294967296) + u1) - IntKind.u64.wrap ((Q1 : Int) * Y)) = (v : Int))
    (eq18 : IntKind.u64.wrap ((v : Int) / (yn1 : Int)) = (q18 : Int)) (er18 : IntKind.u64.wrap ((v : Int) - IntKind.u64.wrap ((q18 : Int) * yn1)) = (r18 : Int)) (hr18 : r18 < 4294967296) (hq18 : q18 ≤ 4294967297)
    (HI18 : Hid (HalfInv v u0 Y yn1 yn0 q18 r18)) (HQ18 : Hid (Q0 = (v * 4294967296 + u0) / Y))
    (equo : IntKind.u64.wrap (IntKind.u64.wrap ((Q1 : Int) * 4294967296) + Q0) = (quo : Int))
    (erem : IntKind.u64.wrap (IntKind.u64.wrap (IntKind.u64.wrap ((v : Int) * 4294967296) + u0) - IntKind.u64.wrap ((Q0 : Int) * Y)) / 2 ^ s = (rem : Int))
    (HL : Calls Tryz.prog 85 #[.int .u64 (y : Int)] w fun e w' => e = .returned (.int .i64 (s : Int)) ∧ w = w') :
    Calls Tryz.prog 84 #[.int .u64 (hi : Int), .int .u64 (lo : Int), .int .u64 (y : Int)] w fun e w' => e = .returned (.tuple #[.int .u64 (quo : Int), .int .u64 (rem : Int)]) ∧ w' = w := by
  have HC := Lib.hid HL
  have HY := Lib.hid hY
  clear HL hY
  go_enter Tryz.func84, Tryz.ntmps84
  go_upto_block 0 with (go_at_call 85; refine (HC.out).mono ?_; rintro e w' ⟨rfl, rfl⟩)
  clear HC eY eY1 eY0 eU eL eL1 eL0 eq15 er15
  go_cut [15, 16] from 67 to 85 (fun sq sr wx => sq = .int .u64 (Q1 : Int) ∧ w = wx)
  case first =>
    go_wp2_with fail
    go_loopw [15, 16] (fun sq sr wr => ∃ q r : Nat, sq = .int .u64 (q : Int) ∧ sr = .int .u64 (r : Int) ∧ r < 4294967296 ∧ q ≤ 4294967297 ∧ Hid (HalfInv u u1 Y yn1 yn0 q r) ∧ w = wr) (fun sq _ _ => (intOf sq).toNat)
    case atStart => exact ⟨q15, r15, rfl, rfl, hr15, hq15, HI15, rfl⟩
    case round =>
      obtain ⟨q, r, rfl, rfl, hr, hq, HI, rfl⟩ := hrel
      have HB := half_body (u := u) (u1 := u1) (Q := Q1) HY.out hyn0 hyn1 hu1_15 hu_15 HQ15.out hr hq HI.out
      have HBH := Lib.hid HB
      clear HB
      by_cases hb1 : 4294967296 ≤ q
      · skip
        have hb1z : (4294967296 : Int) ≤ (q : Int) := by omega
        obtain ⟨q', r', hd, he, hI2, hqq, hrr⟩ := HBH.out.2.2 (Or.inl hb1)
        have HI2 := Lib.hid hI2
        clear hI2 HI HBH
        by_cases hbr : 4294967296 ≤ r'
        · have hbrz : (4294967296 : Int) ≤ (r' : Int) := by omega
          have hfin := Lib.hid (half_break HY.out hyn0 hyn1p HQ15.out HI2.out hbr (by omega))
          clear HI2
          go_wp2
          go_meet
          exact ⟨by rw [← hfin.out], rfl⟩
        · have hbrz : ¬ (4294967296 : Int) ≤ (r' : Int) := by omega
          go_wp2
          go_roundw
          case rel => exact ⟨q', r', rfl, rfl, by omega, by omega, HI2, by first | rfl | trivial⟩
          case measure => simp [intOf]; omega
      · skip
        have hb1z : ¬ (4294967296 : Int) ≤ (q : Int) := by omega
        have eA := (HBH.out.1 (by omega)).1
        by_cases hb2 : 4294967296 * r + u1 < q * yn0
        · obtain ⟨q', r', hd, he, hI2, hqq, hrr⟩ := HBH.out.2.2 (Or.inr hb2)
          
          have HI2 := Lib.hid hI2
          clear hI2 HI HBH
          obtain ⟨A, hA⟩ : ∃ A, A = q * yn0 := ⟨_, rfl⟩
          rw [← hA] at eA hb2
          have hb2z : 4294967296 * (r : Int) + u1 < (A : Int) := by omega
          clear hA hb2
          by_cases hbr : 4294967296 ≤ r'
          · have hbrz : (4294967296 : Int) ≤ (r' : Int) := by omega
            have hfin := Lib.hid (half_break HY.out hyn0 hyn1p HQ15.out HI2.out hbr (by omega))
            clear HI2
            go_wp2
            go_meet
            exact ⟨by rw [← hfin.out], rfl⟩
          · have hbrz : ¬ (4294967296 : Int) ≤ (r' : Int) := by omega
            go_wp2
            go_roundw
            case rel => exact ⟨q', r', rfl, rfl, by omega, by omega, HI2, by first | rfl | trivial⟩
            case measure => simp [intOf]; omega
        · have hfin := Lib.hid (HBH.out.2.1 hb2)
          
          clear HI HBH
          obtain ⟨A, hA⟩ : ∃ A, A = q * yn0 := ⟨_, rfl⟩
          rw [← hA] at eA hb2
          have hb2z : (A : Int) ≤ 4294967296 * (r : Int) + u1 := by omega
          clear hA hb2
          go_wp2
          go_meet
          exact ⟨by rw [hfin.out], rfl⟩
  obtain ⟨rfl, rfl⟩ := hcut
  go_upto_block 2 with fail
  clear ev eq18 er18
  go_cut [18, 16] from 102 to 120 (fun sq sr wx => sq = .int .u64 (Q0 : Int) ∧ w = wx)
  case first =>
    go_wp2_with fail
    go_loopw [18, 16] (fun sq sr wr => ∃ q r : Nat, sq = .int .u64 (q : Int) ∧ sr = .int .u64 (r : Int) ∧ r < 4294967296 ∧ q ≤ 4294967297 ∧ Hid (HalfInv v u0 Y yn1 yn0 q r) ∧ w = wr) (fun sq _ _ => (intOf sq).toNat)
    case atStart => exact ⟨q18, r18, rfl, rfl, hr18, hq18, HI18, rfl⟩
    case round =>
      obtain ⟨q, r, rfl, rfl, hr, hq, HI, rfl⟩ := hrel
      have HB := half_body (u := v) (u1 := u0) (Q := Q0) HY.out hyn0 hyn1 hu1_18 hu_18 HQ18.out hr hq HI.out
      have HBH := Lib.hid HB
      clear HB
      by_cases hb1 : 4294967296 ≤ q
      · skip
        have hb1z : (4294967296 : Int) ≤ (q : Int) := by omega
        obtain ⟨q', r', hd, he, hI2, hqq, hrr⟩ := HBH.out.2.2 (Or.inl hb1)
        have HI2 := Lib.hid hI2
        clear hI2 HI HBH
        by_cases hbr : 4294967296 ≤ r'
        · have hbrz : (4294967296 : Int) ≤ (r' : Int) := by omega
          have hfin := Lib.hid (half_break HY.out hyn0 hyn1p HQ18.out HI2.out hbr (by omega))
          clear HI2
          go_wp2
          go_meet
          exact ⟨by rw [← hfin.out], rfl⟩
        · have hbrz : ¬ (4294967296 : Int) ≤ (r' : Int) := by omega
          go_wp2
          go_roundw
          case rel => exact ⟨q', r', rfl, rfl, by omega, by omega, HI2, by first | rfl | trivial⟩
          case measure => simp [intOf]; omega
      · skip
        have hb1z : ¬ (4294967296 : Int) ≤ (q : Int) := by omega
        have eA := (HBH.out.1 (by omega)).1
        by_cases hb2 : 4294967296 * r + u0 < q * yn0
        · obtain ⟨q', r', hd, he, hI2, hqq, hrr⟩ := HBH.out.2.2 (Or.inr hb2)
          
          have HI2 := Lib.hid hI2
          clear hI2 HI HBH
          obtain ⟨A, hA⟩ : ∃ A, A = q * yn0 := ⟨_, rfl⟩
          rw [← hA] at eA hb2
          have hb2z : 4294967296 * (r : Int) + u0 < (A : Int) := by omega
          clear hA hb2
          by_cases hbr : 4294967296 ≤ r'
          · have hbrz : (4294967296 : Int) ≤ (r' : Int) := by omega
            have hfin := Lib.hid (half_break HY.out hyn0 hyn1p HQ18.out HI2.out hbr (by omega))
            clear HI2
            go_wp2
            go_meet
            exact ⟨by rw [← hfin.out], rfl⟩
          · have hbrz : ¬ (4294967296 : Int) ≤ (r' : Int) := by omega
            go_wp2
            go_roundw
            case rel => exact ⟨q', r', rfl, rfl, by omega, by omega, HI2, by first | rfl | trivial⟩
            case measure => simp [intOf]; omega
        · have hfin := Lib.hid (HBH.out.2.1 hb2)
          
          clear HI HBH
          obtain ⟨A, hA⟩ : ∃ A, A = q * yn0 := ⟨_, rfl⟩
          rw [← hA] at eA hb2
          have hb2z : (A : Int) ≤ 4294967296 * (r : Int) + u0 := by omega
          clear hA hb2
          go_wp2
          go_meet
          exact ⟨by rw [hfin.out], rfl⟩
  obtain ⟨rfl, rfl⟩ := hcut
  go_wp2
  go_ret2
  exact ⟨rfl, rfl⟩
end Go.Proofs.YtndcaajebomkhaaGreatDoor
