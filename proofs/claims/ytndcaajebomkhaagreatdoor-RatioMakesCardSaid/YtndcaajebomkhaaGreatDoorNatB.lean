/- Layer 1 (nat): Cmp and Len of any numbers. -/
import Derived.Test.YtndcaajebomkhaaGreatDoorNatA
import Derived.Deep.QuietTactic
import Derived.BigQuiet
namespace Go.Proofs.YtndcaajebomkhaaGreatDoor
open Go.RowKit

/-- -1, 0, 1. -/
def cmpN (x y : Nat) : Int := if x < y then -1 else if y < x then 1 else 0

theorem isNaN_int (x : Int) (w : World) : Calls Tryz.prog 106 #[.int .i64 x] w fun e w' => e = .returned (.bool false) ∧ w = w' := by
  go_enter Tryz.func106, Tryz.ntmps106
  go_wp2
  go_ret
  exact ⟨rfl, rfl⟩
theorem isNaN_u64 (x : Int) (w : World) : Calls Tryz.prog 107 #[.int .u64 x] w fun e w' => e = .returned (.bool false) ∧ w = w' := by
  go_enter Tryz.func107, Tryz.ntmps107
  go_wp2
  go_ret
  exact ⟨rfl, rfl⟩
set_option maxHeartbeats 400000 in
theorem compare_int (x y : Nat) (w : World) : Calls Tryz.prog 82 #[.int .i64 (x : Int), .int .i64 (y : Int)] w fun e w' => e = .returned (.int .i64 (cmpN x y)) ∧ w = w' := by
  by_cases h1 : x < y
  · rw [show cmpN x y = -1 from by simp [cmpN, h1]]
    go_enter Tryz.func82, Tryz.ntmps82
    go_wp2_with (go_at_call 106; refine (isNaN_int _ _).mono ?_; rintro e w' ⟨rfl, rfl⟩)
    go_ret
    exact ⟨rfl, rfl⟩
  · by_cases h2 : y < x
    · rw [show cmpN x y = 1 from by simp [cmpN, h1, h2]]
      go_enter Tryz.func82, Tryz.ntmps82
      go_wp2_with (go_at_call 106; refine (isNaN_int _ _).mono ?_; rintro e w' ⟨rfl, rfl⟩)
      go_ret
      exact ⟨rfl, rfl⟩
    · rw [show cmpN x y = 0 from by simp [cmpN, h1, h2]]
      go_enter Tryz.func82, Tryz.ntmps82
      go_wp2_with (go_at_call 106; refine (isNaN_int _ _).mono ?_; rintro e w' ⟨rfl, rfl⟩)
      go_ret
      exact ⟨rfl, rfl⟩
set_option maxHeartbeats 400000 in
theorem compare_u64 (x y : Nat) (w : World) : Calls Tryz.prog 83 #[.int .u64 (x : Int), .int .u64 (y : Int)] w fun e w' => e = .returned (.int .i64 (cmpN x y)) ∧ w = w' := by
  by_cases h1 : x < y
  · rw [show cmpN x y = -1 from by simp [cmpN, h1]]
    go_enter Tryz.func83, Tryz.ntmps83
    go_wp2_with (go_at_call 107; refine (isNaN_u64 _ _).mono ?_; rintro e w' ⟨rfl, rfl⟩)
    go_ret
    exact ⟨rfl, rfl⟩
  · by_cases h2 : y < x
    · rw [show cmpN x y = 1 from by simp [cmpN, h1, h2]]
      go_enter Tryz.func83, Tryz.ntmps83
      go_wp2_with (go_at_call 107; refine (isNaN_u64 _ _).mono ?_; rintro e w' ⟨rfl, rfl⟩)
      go_ret
      exact ⟨rfl, rfl⟩
    · rw [show cmpN x y = 0 from by simp [cmpN, h1, h2]]
      go_enter Tryz.func83, Tryz.ntmps83
      go_wp2_with (go_at_call 107; refine (isNaN_u64 _ _).mono ?_; rintro e w' ⟨rfl, rfl⟩)
      go_ret
      exact ⟨rfl, rfl⟩

/-! Plain mathematics: two numbers without noughts at the top, from the top down. -/
theorem digs_le_length {β : Nat} (hb : 2 ≤ β) {x y : Nat} (h : (digs β x).length < (digs β y).length) : x < y := by
  have h1 := (digs_length_le hb x (digs β x).length).1 (Nat.le_refl _)
  have h2 := (digs_lt_length hb y (digs β x).length).1 h
  omega
theorem vl_top_lt {β : Nat} (xs ys : List Nat) (n k : Nat) (hk : k < n) (hx : ∀ i, i < n → nth xs i < β) (he : ∀ j, k < j → j < n → nth xs j = nth ys j) (hlt : nth xs k < nth ys k) : vl β xs n < vl β ys n := by
  induction n with
  | zero => omega
  | succ n ih =>
    rw [vl_succ, vl_succ]
    by_cases h : k = n
    · subst h
      have h1 := vl_lt xs k (fun i hi => hx i (by omega))
      have h2 : (nth xs k + 1) * β ^ k ≤ nth ys k * β ^ k := Nat.mul_le_mul_right _ hlt
      rw [Nat.add_mul] at h2
      omega
    · rw [he n (by omega) (by omega)]
      have := ih (by omega) (fun i hi => hx i (by omega)) (fun j h1 h2 => he j h1 (by omega))
      omega
theorem cmpN_lt {x y : Nat} (h : x < y) : cmpN x y = -1 := by simp [cmpN, h]
theorem cmpN_gt {x y : Nat} (h : y < x) : cmpN x y = 1 := by simp [cmpN, h, Nat.lt_asymm h]
theorem cmpN_eq {x y : Nat} (h : x = y) : cmpN x y = 0 := by simp [cmpN, h]
/-- By lengths that part. -/
theorem cmp_len {β x y n m : Nat} (hb : 2 ≤ β) (hx : (digs β x).length = n) (hy : (digs β y).length = m) (h : n ≠ m) : cmpN n m = cmpN x y := by
  by_cases h1 : n < m
  · rw [cmpN_lt h1, cmpN_lt (digs_le_length hb (by omega))]
  · rw [cmpN_gt (by omega), cmpN_gt (digs_le_length hb (by omega))]
/-- By the highest place at which they part. -/
theorem cmp_at {β x y n k : Nat} (hb : 2 ≤ β) (hx : (digs β x).length = n) (hy : (digs β y).length = n) (hk : k < n)
    (he : ∀ j, k < j → j < n → nth (digs β x) j = nth (digs β y) j) (hne : nth (digs β x) k ≠ nth (digs β y) k) : cmpN (nth (digs β x) k) (nth (digs β y) k) = cmpN x y := by
  have ex : vl β (digs β x) n = x := by have := val_digs hb x; unfold val at this; rw [hx] at this; exact this
  have ey : vl β (digs β y) n = y := by have := val_digs hb y; unfold val at this; rw [hy] at this; exact this
  by_cases h1 : nth (digs β x) k < nth (digs β y) k
  · have := vl_top_lt (β := β) (digs β x) (digs β y) n k hk (fun i _ => digs_word hb _ _) he h1
    rw [ex, ey] at this
    rw [cmpN_lt h1, cmpN_lt this]
  · have := vl_top_lt (β := β) (digs β y) (digs β x) n k hk (fun i _ => digs_word hb _ _) (fun j a b => (he j a b).symm) (by omega)
    rw [ex, ey] at this
    rw [cmpN_gt (by omega), cmpN_gt this]
theorem cmp_same {β x y n : Nat} (hb : 2 ≤ β) (hx : (digs β x).length = n) (hy : (digs β y).length = n) (he : ∀ j, j < n → nth (digs β x) j = nth (digs β y) j) : cmpN x y = 0 :=
  cmpN_eq (digs_inj hb (ext_nth (by omega) (fun i hi => he i (by omega))))

set_option maxHeartbeats 1000000 in
theorem natCmp_any {B1 B2 : Nat} (p1 p2 : Option Addr) (l1 l2 c1 c2 : Nat) (xs ys : List Nat) (w : World) (h1 : l1 ≤ c1) (h2 : l2 ≤ c2) (k1 : l1 ≤ 1000000) (k2 : l2 ≤ 1000000)
    (r1 : Rd .u64 W64 B1 w p1 l1 xs) (r2 : Rd .u64 W64 B2 w p2 l2 ys) :
    Calls Tryz.prog 52 #[.slice p1 l1 c1, .slice p2 l2 c2] w fun e w' => e = .returned (.int .i64 (cmpN (val W64 xs) (val W64 ys))) ∧ ∃ n, w' = w.drewN n := by
  obtain ⟨x, hx⟩ : ∃ x, x = val W64 xs := ⟨_, rfl⟩
  obtain ⟨y, hy⟩ : ∃ y, y = val W64 ys := ⟨_, rfl⟩
  rw [← hx, ← hy]
  have HX := Lib.hid hx
  have HY := Lib.hid hy
  clear hx hy
  go_enter Tryz.func52, Tryz.ntmps52
  go_wp2_with fail
  refine (trim_val p1 l1 c1 xs w h1 k1 r1).mono ?_
  rintro e w' ⟨q1, n1, rfl, hn1, hq1, hR1, rfl⟩
  go_wp2_with fail
  refine (trim_val p2 l2 c2 ys w h2 k2 r2).mono ?_
  rintro e w' ⟨q2, n2, rfl, hn2, hq2, hR2, rfl⟩
  rw [← HX.out] at hR1
  rw [← HY.out] at hR2
  by_cases hne : n1 = n2
  · subst hne
    go_wp2_with fail
    go_loopw [5] (fun i wr => ∃ k : Nat, k ≤ n1 ∧ i = .int .i64 (k - 1) ∧ (∃ d, wr = w.drewN d) ∧ Hid (∀ j, k ≤ j → j < n1 → nth (digs W64 x) j = nth (digs W64 y) j)) (fun i _ => (intOf i + 1).toNat)
    case atStart => exact ⟨n1, Nat.le_refl _, rfl, ⟨0, rfl⟩, Lib.hid (fun j h1 h2 => by omega)⟩
    case round =>
      obtain ⟨k, hk, rfl, ⟨d, rfl⟩, he⟩ := hrel
      by_cases h0 : 0 < k
      · obtain ⟨b1, o1, rfl, _, hc1⟩ := hR1.cell (k - 1) (by omega)
        obtain ⟨b2, o2, rfl, _, hc2⟩ := hR2.cell (k - 1) (by omega)
        have hk1 : 0 ≤ (k : Int) - 1 := by omega
        have hk2 : ((k : Int) - 1).toNat = k - 1 := by omega
        have hk3 : (k : Int) - 1 < n1 := by omega
        obtain ⟨u, hu⟩ : ∃ u, u = nth (digs W64 x) (k - 1) := ⟨_, rfl⟩
        obtain ⟨v, hv⟩ : ∃ v, v = nth (digs W64 y) (k - 1) := ⟨_, rfl⟩
        rw [← hu] at hc1
        rw [← hv] at hc2
        have HU := Lib.hid hu
        have HV := Lib.hid hv
        clear hu hv
        by_cases huv : u = v
        · subst huv
          have he' : Hid (∀ j, k - 1 ≤ j → j < n1 → nth (digs W64 x) j = nth (digs W64 y) j) := Lib.hid (fun j a b => by
            by_cases hj : j = k - 1
            · rw [hj, ← HU.out, ← HV.out]
            · exact he.out j (by omega) b)
          clear HU HV he
          go_wp2
          go_quiet (fail)
          go_wp2
          go_roundw
          case rel => exact ⟨k - 1, by omega, by go_num, ⟨_, rfl⟩, he'⟩
          case measure => simp [intOf]; omega
        · have hw : Hid (cmpN u v = cmpN x y) := Lib.hid (by
            rw [HU.out, HV.out]
            exact cmp_at two_le_W64 hR1.count hR2.count (show k - 1 < n1 by omega) (fun j a b => he.out j (by omega) b) (by rw [← HU.out, ← HV.out]; exact huv))
          clear HU HV he
          rcases Nat.lt_or_gt_of_ne huv with hlt | hlt
          all_goals
            clear huv
            go_wp2
            go_quiet (fail)
            go_wp2
            go_quiet ((go_at_call 83; exact quiet_more (compare_u64 _ _ _)))
            go_wp2
            go_ret
            exact ⟨by rw [← hw.out]; rfl, by rw [World.drewN_drewN, World.drewN_drewN]; exact ⟨_, rfl⟩⟩
      · have hz := cmp_same two_le_W64 hR1.count hR2.count (fun j hj => he.out j (by omega) hj)
        have HZ := Lib.hid hz
        clear hz
        go_wp2
        go_ret
        exact ⟨by rw [HZ.out]; rfl, d, rfl⟩
  · have hw := cmp_len two_le_W64 hR1.count hR2.count hne
    have HW := Lib.hid hw
    clear hw
    rcases Nat.lt_or_gt_of_ne hne with hlt | hlt
    all_goals
      clear hne
      go_wp2_with (go_at_call 82; refine (compare_int n1 n2 _).mono ?_; rintro e w' ⟨rfl, rfl⟩)
      go_ret
      exact ⟨by rw [← HW.out]; rfl, 0, rfl⟩
end Go.Proofs.YtndcaajebomkhaaGreatDoor
